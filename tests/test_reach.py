"""Where roots come behind waits, and the levels by which numbers that lead to a mark are counted."""

import unittest

from halfpace.levels import Levels, Tree
from halfpace.reach import reached, reached_from
from tests.slow import chances


def made_ways(chance, pace=None):
    pace = pace or chance.randint(2, 4)
    many = chance.randint(1, 7)
    return [tuple(chance.randrange(many) for _ in range(pace)) for _ in range(many)]


def walk(ways, root, last):
    """Where the root comes behind each wait."""
    told = [root]
    for wait in range(1, last + 1):
        told.append(ways[told[wait // len(ways[0])]][wait % len(ways[0])])
    return told


class Reached(unittest.TestCase):
    def test_each_place_with_its_least_wait(self):
        for chance in chances(120, 10):
            ways = made_ways(chance)
            for root in range(len(ways)):
                told = walk(ways, root, 3000)
                least = {}
                for wait in range(1, 3001):
                    least.setdefault(told[wait], wait)
                got = reached(ways, root)
                near = [(place, wait) for place, wait in got if wait <= 3000]
                self.assertEqual(near, list(least.items()))
                self.assertEqual(got, sorted(got, key=lambda pair: pair[1]))

    def test_from_a_start_on(self):
        for chance in chances(120, 11):
            ways = made_ways(chance)
            root = chance.randrange(len(ways))
            told = walk(ways, root, 4000)
            for start in (0, 1, 2, 3, chance.randint(4, 40), chance.randint(4, 900), len(ways[0]) ** 4):
                least = {}
                for wait in range(start, 4001):
                    least.setdefault(told[wait], wait)
                got = reached_from(ways, root, start)
                self.assertEqual(got[0], (told[start], start))
                self.assertEqual([pair for pair in got if pair[1] <= 4000], list(least.items()))
                self.assertEqual(got, sorted(got, key=lambda pair: pair[1]))


class Trees(unittest.TestCase):
    def made(self, chance):
        """A tree whose low levels have ways of their own, with its marks told by a walk."""
        pace = chance.randint(2, 4)
        sizes = [chance.randint(1, 5) for _ in range(chance.randint(0, 3))] + [chance.randint(1, 5)]
        base = len(sizes) - 1
        lower = [[[chance.randrange(sizes[level]) for _ in range(sizes[level + 1])] for _ in range(pace)]
                 for level in range(base)]
        high = [[chance.randrange(sizes[-1]) for _ in range(sizes[-1])] for _ in range(pace)]
        heads = [[chance.randrange(size) for _ in range(pace - 1)] for size in sizes]
        marks = [int(chance.random() < 0.3) for _ in range(sizes[0])]
        marked = chance.randrange(2)

        def is_marked(number):
            figures = []
            while number:
                figures.insert(0, number % pace)
                number = number // pace
            if not figures:
                return bool(marked)
            level = len(figures) - 1
            place = heads[min(level, base)][figures[0] - 1]
            for figure in figures[1:]:
                level -= 1
                place = (lower[level] if level < base else high)[figure][place]
            return bool(marks[place])

        return Tree(Levels(lower, high, marks), heads, marked), is_marked, pace

    def test_counted_and_told_by_number(self):
        for chance in chances(150, 12):
            tree, is_marked, _ = self.made(chance)
            bits = [is_marked(number) for number in range(500)]
            for limit in chance.sample(range(501), 60) + [0, 1, 2, 500]:
                self.assertEqual(tree.many_below(limit), sum(bits[:limit]))
            found = [number for number in range(500) if bits[number]]
            for number, marked in enumerate(found):
                self.assertEqual(tree.numbered(number), marked)
            behind = tree.numbered(len(found))
            if behind is not None:
                self.assertGreaterEqual(behind, 500)
                self.assertIs(is_marked(behind), True)
                self.assertEqual(tree.many_below(behind), len(found))

    def test_where_they_end_and_where_they_do_not(self):
        kinds = {True: 0, False: 0}
        for chance in chances(400, 13):
            tree, is_marked, pace = self.made(chance)
            many = tree.all_many()
            again = tree.again()
            kinds[many is None] += 1
            self.assertEqual(many is None, again is not None)
            if many is None:
                lead, turn, tail = again
                for times in range(4):
                    number = 0
                    for rest in lead + turn * times + tail:
                        number = number * pace + rest
                    self.assertIs(is_marked(number), True)
                self.assertIsNotNone(tree.numbered(tree.many_below(10 ** 50)))
            else:
                self.assertIsNone(tree.numbered(many))
                self.assertEqual(tree.many_below(10 ** 60), many)
                if many:
                    self.assertIs(is_marked(tree.numbered(many - 1)), True)
        self.assertGreater(min(kinds.values()), 50)


if __name__ == "__main__":
    unittest.main()
