"""Promises 80 and 81: two runs under the same hands, told apart or shown to sound alike."""

import unittest

from halfpace.choirs import Choir, beside, renamed
from halfpace.ears import Run
from halfpace.errors import SongError, TooMany, Unlike
from halfpace.hands import are_pairs, is_parting, told_apart
from tests.slow import (
    ODD, SlowField, chances, made_choir, made_ear, made_fields, made_runs, made_standing, rising_choir, spoilt,
)

HELD = Choir(2, 2, [("a", ("a", "a"), ((0, 1), (0, 1)))])
LEFT = Choir(2, 2, [("a", ("a", "a"), ((1, 1), (1, 1)))])
EAR = [("a", (0, 1))]
LAST = 24


def cost(row):
    hands = [part for part in row if isinstance(part, tuple)]
    return sum(part for part in row if not isinstance(part, tuple)), len(hands)


def climbing(pace, many):
    """A choir whose notes stay as they are; so each step up takes a hand."""
    return Choir(pace, many, [("a", ("a",) * pace, (tuple(range(many)),) * pace)])


class ToldApart(unittest.TestCase):
    def test_alike_or_a_row_of_the_least_beats_and_fewest_hands(self):
        kinds = {}
        for _, one, other, hands in made_fields(500, 800):
            told = told_apart(one, other, hands)
            field = SlowField(one, other, hands)
            self.assertIs(type(told), tuple)
            self.assertEqual(len(told), 2)
            if told[0] == "alike":
                kinds["alike"] = kinds.get("alike", 0) + 1
                self.assertEqual(told, ("alike", field.pairs()))
                self.assertIs(field.is_list(told[1]), True)
                self.assertIs(are_pairs(one, other, hands, told[1]), True)
                continue
            self.assertEqual(told[0], "apart")
            row = told[1]
            self.assertIs(field.is_row(row), True)
            self.assertIs(is_parting(one, other, hands, row), True)
            least = field.least(LAST)
            beats, many = cost(row)
            kinds[min(beats, 1), min(many, 2)] = kinds.get((min(beats, 1), min(many, 2)), 0) + 1
            if least is None:
                self.assertGreater(beats, LAST)
            else:
                self.assertEqual((beats, many), least)
            if field.unlike(one.root(), other.root()):
                self.assertEqual(row, [])
        for kind in ("alike", (0, 0), (1, 0), (0, 1), (1, 1)):
            self.assertGreater(kinds[kind], 3, kind)

    def test_hands_one_behind_another(self):
        # By a hand a voice takes the next note, in the one choir alone; only the last note is heard.
        for pace in (2, 3, 4):
            one = Run(climbing(pace, 5), (0,), [("a", (0, 0, 0, 0, 1))])
            other = Run(climbing(pace, 5), (0,), [("a", (0, 0, 0, 0, 0))])
            for note in range(5):
                hands = [[(0, "a", note)], [(1, "a", 4)]]
                told = told_apart(one, other, hands)
                self.assertEqual(told[0], "apart" if note == 4 else "alike")
                if note == 4:
                    self.assertEqual(told[1], [("hand", 0)])

    def test_no_two_waits_side_by_side(self):
        for _, one, other, hands in made_fields(150, 801):
            told = told_apart(one, other, hands)
            if told[0] == "apart":
                for part, behind in zip(told[1], told[1][1:]):
                    self.assertTrue(isinstance(part, tuple) or isinstance(behind, tuple))
                for part in told[1]:
                    self.assertTrue(part[0] == "hand" if isinstance(part, tuple) else part >= 1)

    def test_the_same_two_runs_by_other_hands(self):
        one = Run(HELD, (0,), EAR)
        other = Run(HELD, (0,), [("a", (0, 0))])
        never = [[(0, "a", 0)], [(0, "a", 0), (1, "a", 1)]]
        alike = told_apart(one, other, never)
        self.assertEqual(alike[0], "alike")
        self.assertEqual(told_apart(one, other, never + [[(0, "a", 1)]]), ("apart", [("hand", 2)]))
        self.assertEqual(told_apart(one, other, never), alike)
        self.assertRaises(TooMany, told_apart, one, other, never, most=1)
        self.assertEqual(told_apart(one, other, never), alike)
        self.assertEqual(told_apart(other, one, [[(1, "a", 1)]]), ("apart", [("hand", 0)]))
        self.assertEqual(told_apart(one, Run(LEFT, (0,), EAR), never[:1]), ("apart", [1]))
        self.assertEqual(told_apart(one, Run(LEFT, (0,), EAR), never), ("apart", [("hand", 1)]))

    def test_far_rows(self):
        # The note rises by a figure that is greater than 0 alone: the least wait is p ** k - 1 or so.
        for pace in (2, 3, 4):
            rise = tuple(min(note + 1, 4) for note in range(5))
            choir = Choir(pace, 5, [("a", ("a",) * pace, ((0, 1, 2, 3, 4),) + (rise,) * (pace - 1))])
            one = Run(choir, (0,), [("a", (0, 0, 0, 0, 1))])
            other = Run(choir, (0,), [("a", (0, 0, 0, 0, 0))])
            told = told_apart(one, other, [[(0, "a", 0)]])
            self.assertEqual(told, ("apart", [(pace ** 4 - 1) // (pace - 1)]))
            # With a breath between the beats are fewer.
            least = SlowField(one, other, [[]]).least(20)
            self.assertEqual(cost(told_apart(one, other, [[]])[1]), least)
            self.assertEqual(least, (4, 3))

    def test_two_choirs_beside_one_another_sing_each_as_by_itself(self):
        # [8]: heard alone, the one of two choirs beside one another sounds alike under all hands.
        for chance in chances(20, 802):
            one = made_choir(chance, 2, 2, chance.randint(1, 2))
            other = made_choir(chance, 2, 2, chance.randint(1, 2))
            other = renamed(other, {name: "o" + name[:4] for name in other.names()})
            both = beside(one, other)
            root = made_standing(chance, both)
            ear = made_ear(chance, one, 2)
            put = [list(zip(one.names(), made_standing(chance, one))) for _ in range(2)]
            hands = [[(side, name, note) for side in (0, 1) for name, note in notes] for notes in put]
            alone = tuple(note for name, note in zip(both.names(), root) if name in one.names())
            told = told_apart(Run(one, alone, ear), Run(both, root, ear), hands)
            self.assertEqual(told[0], "alike")


class Refused(unittest.TestCase):
    def refused(self, kind, *handed, **more):
        with self.assertRaises(SongError) as told:
            told_apart(*handed, **more)
        self.assertIs(type(told.exception), kind)
        return told.exception

    def test_unlike_comes_ahead(self):
        for chance in chances(20, 803):
            one, _ = made_runs(chance)
            pace = chance.choice([pace for pace in (2, 3, 4) if pace != one.choir().pace()])
            choir = made_choir(chance, pace)
            other = Run(choir, made_standing(chance, choir), made_ear(chance, choir, len(one.ear())))
            longer = Run(one.choir(), one.root(), one.ear() + one.ear()[:1])
            for most in (1, 400):
                self.refused(Unlike, one, other, [[]], most=most)
                self.refused(Unlike, one, longer, [[]], most=most)
                self.refused(Unlike, longer, one, [[]], most=most)

    def test_just_where_more_pairs_come(self):
        at_once = 0
        for _, one, other, hands in made_fields(150, 804):
            field = SlowField(one, other, hands)
            many = len(field.pairs())
            at_once += field.unlike(one.root(), other.root())
            expected = told_apart(one, other, hands)
            for most in {many, min(many + 1, 400), 400}:
                self.assertEqual(told_apart(one, other, hands, most=most), expected)
            for most in {1, many // 2, many - 1}:
                if 0 < most < many:
                    self.assertEqual(self.refused(TooMany, one, other, hands, most=most).most, most)
        self.assertGreater(at_once, 20)

    def test_more_than_400_where_most_is_left_out(self):
        choir = Choir(2, 4, [(name, (name, name), ((1, 2, 3, 0), (2, 0, 1, 3))) for name in ("a", "b", "c")])
        one = Run(choir, (0, 1, 2), [("a", (0, 0, 0, 0))])
        hands = [[(side, name, note)] for side, name, note in ((0, "a", 0), (0, "b", 1), (1, "c", 2), (1, "b", 3))]
        self.assertEqual(self.refused(TooMany, one, Run(choir, (2, 1, 0), one.ear()), hands).most, 400)


class Pairs(unittest.TestCase):
    def check(self, one, other, hands, thing):
        handed = (one, other, hands)
        if getattr(self, "handed", None) != handed:
            self.handed = handed
            self.field = SlowField(*handed)
        told = are_pairs(one, other, hands, thing)
        self.assertIs(told, self.field.is_list(thing), repr(thing)[:300])
        return told

    def some(self, many, seed):
        for chance, one, other, hands in made_fields(many, seed):
            told = told_apart(one, other, hands)
            if told[0] == "alike":
                yield chance, (one, other, hands), told[1]

    def test_spoilt_at_a_place(self):
        for chance, handed, told in self.some(150, 805):
            self.assertIs(self.check(*handed, told), True)
            for place in chance.sample(range(len(told)), min(len(told), 5)):
                self.assertIs(self.check(*handed, told[:place] + told[place + 1:]), False)
                self.assertIs(self.check(*handed, told + [told[place]]), True)
                for part in spoilt(told[place]):
                    self.check(*handed, told[:place] + [part] + told[place + 1:])
                    self.check(*handed, told + [part])
                begun, x, y = told[place]
                for part in ((not begun, x, y), (int(begun), x, y), (begun, y, x), (begun, x), (begun, x, y, y)):
                    self.check(*handed, told[:place] + [part] + told[place + 1:])
                    self.check(*handed, told + [part])
            self.check(*handed, told[::-1])
            self.check(*handed, tuple(told))
            self.check(*handed, [list(part) for part in told])
            self.check(*handed, [])

    def test_more_pairs_do_no_harm_where_all_that_comes_stands_there(self):
        right = 0
        for chance, handed, told in self.some(100, 806):
            one, other, _ = handed
            field = SlowField(*handed)
            for _ in range(5):
                more = {(chance.random() < 0.5, made_standing(chance, one.choir()), made_standing(chance, other.choir()))}
                while not {part for pair in more for part in field.coming(pair)} <= more:
                    more |= {part for pair in more for part in field.coming(pair)}
                right += self.check(*handed, told + sorted(more))
        self.assertGreater(right, 10)

    def test_other_things(self):
        one = Run(HELD, (0,), [("a", (0, 0))])
        for thing in ODD + [0, 1, [[]], [None], [()], [(False,)], [(False, (0,), (0,), ())]]:
            self.assertIs(are_pairs(one, one, [[]], thing), False)
        pairs = [(False, (0,), (0,)), (True, (0,), (0,))]
        self.assertIs(are_pairs(one, one, [[]], pairs), True)
        self.assertIs(are_pairs(one, one, [[]], pairs * 12000), True)
        self.assertIs(are_pairs(one, one, [[]], pairs * 12000 + [(False, (0,), (1,))]), False)
        self.assertIs(are_pairs(one, one, [[]], [(0, (0,), (0,)), (True, (0,), (0,))]), False)
        self.assertIs(are_pairs(one, one, [[]], [(False, (0,), (False,)), (True, (0,), (0,))] + pairs), False)

    def test_where_they_are_told_apart_nothing_shows_it(self):
        for _, one, other, hands in made_fields(100, 807):
            if told_apart(one, other, hands)[0] == "apart":
                field = SlowField(one, other, hands)
                self.assertIs(self.check(one, other, hands, field.pairs()), False)
                alike = [pair for pair in field.pairs() if not field.unlike(*pair[1:])]
                self.assertIs(self.check(one, other, hands, alike), False)

    def test_ears_of_unlike_lengths_and_unlike_paces(self):
        one = Run(HELD, (0,), [("a", (0, 0))])
        longer = Run(HELD, (0,), [("a", (0, 0)), ("a", (0, 0))])
        pairs = [(False, (0,), (0,)), (True, (0,), (0,))]
        self.assertIs(are_pairs(one, longer, [[]], pairs), False)
        self.assertIs(is_parting(one, longer, [[]], []), True)
        three = Run(climbing(3, 2), (0,), [("a", (0, 0))])
        self.assertIs(are_pairs(one, three, [[]], pairs), False)


class Rows(unittest.TestCase):
    def check(self, field, thing):
        told = is_parting(*field.runs, field.hands, thing)
        self.assertIs(told, field.is_row(thing), repr(thing)[:300])
        return told

    def test_spoilt_at_a_place(self):
        kinds = {True: 0, False: 0}
        for chance, one, other, hands in made_fields(200, 808):
            told = told_apart(one, other, hands)
            if told[0] == "alike":
                continue
            field = SlowField(one, other, hands)
            row = told[1]
            hand = ("hand", chance.randrange(len(hands)))
            wait = chance.choice([1, 2, 10 ** 18, 10 ** 40, chance.randrange(1, 10 ** 900)])
            for at in range(len(row) + 1):
                for part in (hand, wait, 0, -1, True, "1", None, ("hand", len(hands)), ("hand", -1), ("hand", True),
                             ["hand", 0], ("hand",), ("hand", 0, 0), ("Hand", 0), (0, "hand"), "hand", [1], 1.5):
                    kinds[self.check(field, row[:at] + [part] + row[at:])] += 1
                    kinds[self.check(field, row[:at] + [part] + row[at + 1:])] += 1
                self.check(field, row[:at] + [1, 1] + row[at:])
                self.check(field, row[:at] + [hand, hand] + row[at:])
                self.check(field, row[:at] + [hand, 3, hand] + row[at:])
            self.check(field, tuple(row))
            self.check(field, row + row)
            self.check(field, row[::-1])
        self.assertGreater(min(kinds.values()), 300)

    def test_rows_of_chance(self):
        kinds = {True: 0, False: 0}
        for chance, one, other, hands in made_fields(150, 809):
            field = SlowField(one, other, hands)
            for _ in range(6):
                row = []
                for _ in range(chance.randint(0, 4)):
                    row += [chance.choice([chance.randint(1, 20), 10 ** 18, 10 ** 40])] if chance.random() < 0.6 else []
                    row += [("hand", chance.randrange(len(hands)))] * chance.randint(0, 2)
                kinds[self.check(field, row)] += 1
        self.assertGreater(min(kinds.values()), 100)

    def test_other_things(self):
        one = Run(HELD, (0,), EAR)
        other = Run(HELD, (1,), EAR)
        self.assertIs(is_parting(one, other, [[]], []), True)
        self.assertIs(is_parting(one, one, [[]], []), False)
        for thing in ODD + [0, 1, 10 ** 900, [[]], [()], "hand", ("hand", 0), [("hand", 0), ["hand", 0]]]:
            if type(thing) is not list or thing:
                self.assertIs(is_parting(one, other, [[]], thing), False)
        self.assertIs(is_parting(one, other, [[]], [("hand", 0), 1] * 2000), True)
        self.assertIs(is_parting(one, other, [[]], [("hand", 0), 1] * 2000 + [1]), False)


class TheAskersOwn(unittest.TestCase):
    def test_told_lists_are_changed_and_told_again(self):
        for _, one, other, hands in made_fields(60, 810):
            told = told_apart(one, other, hands)
            kept = repr(told)
            told[1].append(None)
            self.assertEqual(repr(told_apart(one, other, hands)), kept)

    def test_hands_stay_and_are_asked_anew(self):
        one = Run(HELD, (0,), EAR)
        other = Run(HELD, (0,), [("a", (0, 0))])
        hands = [[(0, "a", 0)]]
        self.assertEqual(told_apart(one, other, hands)[0], "alike")
        pairs = told_apart(one, other, hands)[1]
        self.assertEqual(hands, [[(0, "a", 0)]])
        hands[0][0] = (0, "a", 1)
        self.assertEqual(told_apart(one, other, hands), ("apart", [("hand", 0)]))
        self.assertIs(are_pairs(one, other, hands, pairs), False)
        self.assertIs(is_parting(one, other, hands, [("hand", 0)]), True)
        hands[0].clear()
        self.assertEqual(told_apart(one, other, hands)[0], "alike")
        self.assertIs(are_pairs(one, other, hands, pairs), True)
        self.assertIs(is_parting(one, other, hands, [("hand", 0)]), False)
        self.assertEqual(hands, [[]])


class Rising(unittest.TestCase):
    def test_rising_notes_and_one_ear(self):
        for chance in chances(60, 811):
            choir = rising_choir(chance, None, None, 1)
            ear = made_ear(chance, choir, 1)
            one = Run(choir, made_standing(chance, choir), ear)
            note = chance.randrange(choir.notes())
            hands = [[(side, choir.names()[0], note) for side in (0, 1)]]
            told = told_apart(one, Run(choir, one.root(), ear), hands)
            self.assertEqual(told, ("alike", SlowField(one, one, hands).pairs()))


if __name__ == "__main__":
    unittest.main()
