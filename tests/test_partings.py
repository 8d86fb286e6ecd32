"""Promise 84: partings, how soon and with how few hands each pair of roots is told apart."""

import unittest

from halfpace.choirs import Choir
from halfpace.ears import Run
from halfpace.errors import SongError, TooMany, Unlike
from halfpace.hands import told_apart
from halfpace.partings import are_partings, partings
from tests.slow import (
    ODD, SlowField, chances, made_choir, made_ear, made_fields, made_runs, made_standing, spoilt,
)

HELD = Choir(2, 2, [("a", ("a", "a"), ((0, 1), (0, 1)))])
EAR = [("a", (0, 1))]
LAST = 14


def cost(row):
    hands = [part for part in row if isinstance(part, tuple)]
    return sum(part for part in row if not isinstance(part, tuple)), len(hands)


class Partings(unittest.TestCase):
    def test_all_pairs_of_roots_sorted_each_with_its_cost(self):
        kinds = {"now": 0, "never": 0, "later": 0, "hands": 0}
        for chance, one, other, hands in made_fields(300, 840):
            told = partings(one, other, hands)
            pairs = SlowField(one, other, hands).pairs()
            self.assertIs(type(told), list)
            self.assertEqual([row[:2] for row in told], [(x, y) for begun, x, y in pairs if not begun])
            for x, y, beats, many in chance.sample(told, min(len(told), 8)):
                runs = (Run(one.choir(), x, one.ear()), Run(other.choir(), y, other.ear()))
                row = told_apart(*runs, hands)
                if beats is None:
                    kinds["never"] += 1
                    self.assertIsNone(many)
                    self.assertEqual(row[0], "alike")
                    continue
                self.assertEqual(row[0], "apart")
                self.assertEqual((beats, many), cost(row[1]))
                kinds["now" if (beats, many) == (0, 0) else "hands" if many else "later"] += 1
        self.assertGreater(min(kinds.values()), 15)

    def test_against_a_walk(self):
        seen = 0
        for _, one, other, hands in made_fields(60, 841):
            for x, y, beats, many in partings(one, other, hands)[:3]:
                runs = (Run(one.choir(), x, one.ear()), Run(other.choir(), y, other.ear()))
                least = SlowField(*runs, hands).least(LAST)
                if least is None:
                    self.assertTrue(beats is None or beats > LAST)
                else:
                    seen += 1
                    self.assertEqual((beats, many), least)
        self.assertGreater(seen, 50)

    def test_by_hand(self):
        one = Run(HELD, (0,), EAR)
        hands = [[(0, "a", 1)]]
        expected = [((0,), (0,), 0, 1), ((1,), (0,), 0, 0)]
        self.assertEqual(partings(one, one, hands), expected)
        self.assertEqual(partings(one, one, [[]]), [((0,), (0,), None, None)])
        self.assertEqual(partings(one, one, [[]], most=2), [((0,), (0,), None, None)])
        rise = Choir(2, 3, [("a", ("a", "a"), ((0, 1, 2), (1, 2, 2)))])
        far = [Run(rise, (0,), [("a", (0, 0, note))]) for note in (0, 1)]
        self.assertEqual(partings(*far, [[]])[0], ((0,), (0,), 2, 1))
        self.assertEqual(partings(*far, [[(1, "a", 0)]])[0], ((0,), (0,), 3, 0))


class Refused(unittest.TestCase):
    def refused(self, kind, ask, *handed, **more):
        with self.assertRaises(SongError) as told:
            ask(*handed, **more)
        self.assertIs(type(told.exception), kind)
        return told.exception

    def test_unlike_then_too_many_whatever_the_list(self):
        for chance, one, other, hands in made_fields(30, 842):
            pace = chance.choice([pace for pace in (2, 3, 4) if pace != one.choir().pace()])
            choir = made_choir(chance, pace)
            unlike = Run(choir, made_standing(chance, choir), made_ear(chance, choir, len(one.ear())))
            longer = Run(one.choir(), one.root(), one.ear() + one.ear()[:1])
            many = len(SlowField(one, other, hands).pairs())
            right = partings(one, other, hands, most=many)
            for thing in ODD + [right, [], 0]:
                for most in (1, 400):
                    self.refused(Unlike, are_partings, one, unlike, hands, thing, most=most)
                    self.refused(Unlike, are_partings, longer, one, [[]], thing, most=most)
                if many > 1:
                    refusal = self.refused(TooMany, are_partings, one, other, hands, thing, most=many - 1)
                    self.assertEqual(refusal.most, many - 1)
            self.refused(Unlike, partings, one, unlike, hands, most=1)
            self.refused(Unlike, partings, one, longer, hands, most=1)
            if many > 1:
                self.assertEqual(self.refused(TooMany, partings, one, other, hands, most=many - 1).most, many - 1)
                self.assertEqual(self.refused(TooMany, partings, one, other, hands, most=1).most, 1)
            self.assertIs(are_partings(one, other, hands, right, most=many), True)

    def test_more_than_400_where_most_is_left_out(self):
        choir = Choir(2, 4, [(name, (name, name), ((1, 2, 3, 0), (2, 0, 1, 3))) for name in ("a", "b", "c")])
        one = Run(choir, (0, 1, 2), [("a", (0, 0, 0, 0))])
        hands = [[(side, name, note)] for side, name, note in ((0, "a", 0), (0, "b", 1), (1, "c", 2), (1, "b", 3))]
        other = Run(choir, (2, 1, 0), one.ear())
        self.assertEqual(self.refused(TooMany, partings, one, other, hands).most, 400)
        self.assertEqual(self.refused(TooMany, are_partings, one, other, hands, None).most, 400)


class Read(unittest.TestCase):
    def test_spoilt_at_a_place(self):
        for chance, one, other, hands in made_fields(35, 843):
            right = partings(one, other, hands)
            kept = repr(right)
            things = [right[::-1], tuple(right), [list(row) for row in right], right + right, [], right + [None]]
            for _ in range(4):
                at = chance.randrange(len(right))
                x, y, beats, many = right[at]
                things += [right[:at] + right[at + 1:], right[:at + 1] + right[at:]]
                rows = [(y, x, beats, many), (x, y, many, beats), (x, y, beats), (x, y), (x, y, beats, many, 0)]
                for number in (None, 0, 1, -1, True, False, "0", 10 ** 900, [0], 0.5):
                    rows += [(x, y, number, many), (x, y, beats, number)]
                if beats is not None:
                    rows += [(x, y, beats + 1, many), (x, y, beats - 1, many), (x, y, beats, many + 1)]
                rows += [(made_standing(chance, one.choir()), y, beats, many), (tuple(map(bool, x)), y, beats, many)]
                things += [right[:at] + [row] + right[at + 1:] for row in rows]
            for thing in things:
                self.assertIs(are_partings(one, other, hands, thing), repr(thing) == kept, repr(thing)[:200])
            self.assertIs(are_partings(one, other, hands, right), True)

    def test_spoilt_by_any_part(self):
        seen = 0
        for _, one, other, hands in made_fields(60, 844):
            right = partings(one, other, hands)
            if len(right) <= 3 and seen < 8:
                seen += 1
                for thing in spoilt(right):
                    self.assertIs(are_partings(one, other, hands, thing), repr(thing) == repr(right))
        self.assertEqual(seen, 8)

    def test_other_things(self):
        one = Run(HELD, (0,), EAR)
        for thing in ODD + [0, 1, [[]], "[]", [((0,), (0,), None, None)] * 20000]:
            self.assertIs(are_partings(one, one, [[]], thing), False)
        self.assertIs(are_partings(one, one, [[]], [((0,), (0,), None, None)]), True)
        self.assertIs(are_partings(one, one, [[]], [((False,), (0,), None, None)]), False)


class WhatHangsOnIt(unittest.TestCase):
    def test_told_lists_and_hands_put_otherwise(self):
        one = Run(HELD, (0,), EAR)
        hands = [[(0, "a", 1)]]
        told = partings(one, one, hands)
        told.pop()
        self.assertEqual(len(partings(one, one, hands)), 2)
        self.assertIs(are_partings(one, one, hands, told), False)
        self.assertEqual(hands, [[(0, "a", 1)]])
        paper = partings(one, one, hands)
        hands[0].clear()
        self.assertEqual(partings(one, one, hands), [((0,), (0,), None, None)])
        self.assertIs(are_partings(one, one, hands, paper), False)

    def test_asked_of_runs_of_all_kinds(self):
        for chance in chances(20, 845):
            one, other = made_runs(chance, 1)
            first = repr(partings(one, other, [[]]))
            told_apart(one, other, [[]])
            self.assertEqual(repr(partings(one, other, [[]])), first)


if __name__ == "__main__":
    unittest.main()
