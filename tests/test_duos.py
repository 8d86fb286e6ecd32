"""Promises 60, 61 and 62: duos, their triples, and the numbers at which they are unlike."""

import unittest

from halfpace.choirs import Choir, beside, renamed
from halfpace.duos import Duo
from halfpace.ears import Run
from halfpace.errors import SongError, TooMany, Unlike
from halfpace.figures import figures_of, number_of
from tests.slow import (
    ODD, SlowDuo, between, chances, is_unlike_at, made_choir, made_duos, made_ear, made_runs, made_standing,
    rising_choir, slow_heard, slow_sounds, slow_triple, slow_walk, spoilt,
)

LAST = 200
FAR = [10 ** 18, 2 * 10 ** 18, 10 ** 40 - 1, 10 ** 40, 10 ** 40 + 1, 10 ** 60]
HELD = Choir(2, 2, [("a", ("a", "a"), ((0, 1), (0, 1)))])
TURNED = Choir(2, 2, [("a", ("a", "a"), ((0, 1), (1, 0)))])
LEFT = Choir(2, 2, [("a", ("a", "a"), ((1, 1), (1, 1)))])
EAR = [("a", (0, 1))]
DEAF = [("a", (5, 5))]


def turning_choir(chance, many):
    """A choir in which no note is lost, so that many standings come."""
    names = ["alto", "bass", "cue", "pace", "zz"][:many]
    voices = []
    for name, *elders in zip(names, chance.sample(names, many), chance.sample(names, many)):
        voices.append((name, tuple(elders), tuple(chance.choice([(0, 1), (1, 0)]) for _ in range(2))))
    return Choir(2, 2, voices)


class Triples(unittest.TestCase):
    def test_at_each_level_just_those_that_come_sorted(self):
        for _, one, other, lag in made_duos(120, 610):
            duo = Duo(one, other, lag=lag)
            self.assertEqual(duo.lag(), lag)
            expected = SlowDuo(one, other, lag).levels()
            for level, triples in enumerate(expected):
                told = duo.triples(level)
                self.assertIs(type(told), list)
                self.assertEqual(told, sorted(triples))
            self.assertEqual(len(expected) - 1, len(figures_of(lag, one.choir().pace())))

    def test_they_are_those_of_numbers(self):
        for _, one, other, lag in made_duos(25, 611):
            duo = Duo(one, other, lag=lag)
            for level in range(len(figures_of(lag, one.choir().pace())) + 1):
                seen = {slow_triple(one, other, lag, number, level) for number in range(1, 50)}
                self.assertLessEqual(seen, set(duo.triples(level)))

    def test_by_hand(self):
        duo = Duo(Run(HELD, (0,), EAR), Run(TURNED, (1,), EAR))
        self.assertEqual((duo.lag(), duo.triples(0)), (0, [((0,), (0,)), ((0,), (1,))]))
        ahead = Duo(Run(HELD, (0,), EAR), Run(LEFT, (0,), EAR), lag=1)
        self.assertEqual(ahead.triples(1), [((0,), (1,), (1,))])
        self.assertEqual(ahead.triples(0), [((0,), (1,), (1,))])

    def test_told_lists_are_changed_and_told_again(self):
        for _, one, other, lag in made_duos(20, 612):
            duo = Duo(one, other, lag=lag)
            told = duo.triples(0)
            kept = list(told)
            told.append(told[0])
            self.assertEqual(duo.triples(0), kept)
            duo.triples(0).clear()
            self.assertEqual(duo.triples(0), kept)
            self.assertIsNot(duo.triples(0), duo.triples(0))


class Refused(unittest.TestCase):
    def refused(self, kind, one, other, **more):
        with self.assertRaises(SongError) as told:
            Duo(one, other, **more)
        self.assertIs(type(told.exception), kind)
        return told.exception

    def test_unlike_paces_and_ears(self):
        for chance in chances(40, 613):
            one, _ = made_runs(chance)
            other_pace = chance.choice([pace for pace in (2, 3, 4) if pace != one.choir().pace()])
            choir = made_choir(chance, other_pace)
            other = Run(choir, made_standing(chance, choir), made_ear(chance, choir, len(one.ear())))
            longer = Run(one.choir(), one.root(), one.ear() + one.ear()[:1])
            for lag in (0, 1, 10 ** 18):
                for most in (1, 400):
                    # Unlike comes ahead of TooMany, which would be due with most 1.
                    self.refused(Unlike, one, other, lag=lag, most=most)
                    self.refused(Unlike, other, one, lag=lag, most=most)
                    self.refused(Unlike, one, longer, lag=lag, most=most)
                    self.refused(Unlike, longer, one, lag=lag, most=most)

    def test_one_fewer_as_many_and_one_more(self):
        kinds = {"high": 0, "lower": 0}
        for _, one, other, lag in made_duos(150, 614):
            many = [len(triples) for triples in SlowDuo(one, other, lag).levels()]
            kinds["high" if many[-1] == max(many) else "lower"] += 1
            for most in {max(many), max(many) + 1, 400}:
                self.assertEqual(Duo(one, other, lag=lag, most=most).lag(), lag)
            for most in {1, max(many) // 2, max(many) - 1}:
                if 0 < most < max(many):
                    refusal = self.refused(TooMany, one, other, lag=lag, most=most)
                    self.assertEqual(refusal.most, most)
        # The most come at a high level, or at a lower one alone.
        self.assertGreater(min(kinds.values()), 10)

    def test_more_than_400_where_most_is_left_out(self):
        told = {True: 0, False: 0}
        for chance in chances(12, 615):
            choir = turning_choir(chance, chance.choice([3, 4, 5]))
            one_run = Run(choir, made_standing(chance, choir), made_ear(chance, choir, 1))
            other_run = Run(choir, made_standing(chance, choir), made_ear(chance, choir, 1))
            for lag in (0, 5):
                too_many = max(len(triples) for triples in SlowDuo(one_run, other_run, lag).levels()) > 400
                told[too_many] += 1
                if too_many:
                    self.assertEqual(self.refused(TooMany, one_run, other_run, lag=lag).most, 400)
                else:
                    self.assertEqual(Duo(one_run, other_run, lag=lag).lag(), lag)
        self.assertGreater(min(told.values()), 3)


class Walked(unittest.TestCase):
    def test_against_a_walk(self):
        for place, (chance, one, other, lag) in enumerate(made_duos(110, 620)):
            behind = [slow_sounds(other, number + lag) for number in range(LAST + 1)]
            bits = [sound != later for sound, later in zip(slow_walk(one, LAST), behind)]
            found = [number for number in range(LAST + 1) if bits[number]]
            duo = Duo(one, other, lag=lag)
            if place % 2:
                # By number first of all; of the others it is asked behind them.
                self.by_number(duo, found)
            for number in [*range(40), *chance.sample(range(LAST + 1), 40), LAST]:
                self.assertIs(duo.is_unlike(number), bits[number])
                self.assertEqual(duo.many(number), sum(bits[:number + 1]))
                behind = [other for other in found if other >= number]
                first = duo.first(number)
                if behind:
                    self.assertEqual(first, behind[0])
                elif first is not None:
                    self.assertGreater(first, LAST)
                    self.assertIs(is_unlike_at(one, other, lag, first), True)
            self.by_number(duo, found)

    def by_number(self, duo, found):
        for number, unlike in enumerate(found):
            self.assertEqual(duo.unlike(number), unlike)

    def test_far_ones_follow_one_another(self):
        for chance, one, other, lag in made_duos(60, 621):
            duo = Duo(one, other, lag=lag)
            for far in FAR + [chance.randrange(10 ** 40), one.choir().pace() ** 50]:
                for number in range(far, far + 4):
                    unlike = is_unlike_at(one, other, lag, number)
                    self.assertIs(duo.is_unlike(number), unlike)
                    self.assertEqual(duo.many(number) - duo.many(number - 1), int(unlike))
                    if unlike:
                        ahead = duo.many(number) - 1
                        self.assertEqual(duo.unlike(ahead), number if number <= 10 ** 40 else None)
                        self.assertEqual(duo.first(number), number)
                first = duo.first(far)
                if first is not None:
                    self.assertGreaterEqual(first, far)
                    self.assertIs(is_unlike_at(one, other, lag, first), True)
                    self.assertEqual(duo.many(first), duo.many(far - 1) + 1)
                else:
                    self.assertEqual(duo.many(far * 10 ** 40), duo.many(far - 1))

    def test_far_counts_without_a_lag_against_one_choir_of_both(self):
        for chance in chances(25, 622):
            one, other = made_runs(chance, 1)
            new = {name: "other" + name[:3] for name in other.choir().names()}
            if one.choir().notes() != other.choir().notes():
                continue
            both = beside(one.choir(), renamed(other.choir(), new))
            halves = [[both.names().index(name) for name in one.choir().names()],
                      [both.names().index(new[name]) for name in other.choir().names()]]
            root = [None] * len(both)
            for places, run in zip(halves, (one, other)):
                for place, note in zip(places, run.root()):
                    root[place] = note
            for far in FAR:
                many = 0
                for standing, times in between(both, tuple(root), 0, far).items():
                    sung = [tuple(standing[place] for place in places) for places in halves]
                    heard = [slow_heard(run.choir(), part, run.ear()) for run, part in zip((one, other), sung)]
                    many += times * (heard[0] != heard[1])
                self.assertEqual(Duo(one, other).many(far), many)

    def test_the_last_number_is_10_to_the_40th(self):
        # Held at 0 against what is 1 from beat 1 on: unlike at each number but 0.
        duo = Duo(Run(HELD, (0,), EAR), Run(LEFT, (0,), EAR))
        self.assertEqual(duo.many(10 ** 40), 10 ** 40)
        self.assertEqual(duo.many(10 ** 80), 10 ** 80)
        self.assertEqual(duo.unlike(10 ** 40 - 2), 10 ** 40 - 1)
        self.assertEqual(duo.unlike(10 ** 40 - 1), 10 ** 40)
        self.assertIsNone(duo.unlike(10 ** 40))
        self.assertIsNone(duo.unlike(10 ** 200))
        self.assertEqual(duo.first(10 ** 40 + 1), 10 ** 40 + 1)
        self.assertEqual(duo.first(10 ** 100), 10 ** 100)
        self.assertEqual((duo.first(0), duo.unlike(0)), (1, 1))

    def test_the_very_run_on_both_sides(self):
        for chance, one, _, lag in made_duos(40, 623):
            duo = Duo(one, one)
            self.assertEqual((duo.many(10 ** 40), duo.unlike(0), duo.first(0), duo.last()), (0, None, None, ("alike",)))
            Duo(one, one, lag=lag, most=400)


class Last(unittest.TestCase):
    def test_alike_a_last_one_or_figures(self):
        told = {"alike": 0, "last": 0, "again": 0}
        for _, one, other, lag in made_duos(400, 624):
            duo = Duo(one, other, lag=lag)
            last = duo.last()
            self.assertIs(type(last), tuple)
            told[last[0]] += 1
            if last[0] == "alike":
                self.assertEqual(last, ("alike",))
                self.assertIsNone(duo.first(0))
                self.assertFalse(any(is_unlike_at(one, other, lag, number) for number in range(100)))
            elif last[0] == "last":
                self.assertEqual(len(last), 2)
                self.assertIs(is_unlike_at(one, other, lag, last[1]), True)
                self.assertIsNone(duo.first(last[1] + 1))
                self.assertIsNotNone(duo.ladder(last[1] + 1))
            else:
                self.again(one, other, lag, duo, last)
        self.assertGreater(min(told.values()), 10)

    def again(self, one, other, lag, duo, last):
        self.assertEqual(len(last), 4)
        _, lead, turn, tail = last
        pace = one.choir().pace()
        base = len(figures_of(lag, pace))
        self.assertTrue(lead and lead[0] > 0 and turn and len(tail) >= base)
        triples = [slow_triple(one, other, lag, number_of(figures, pace), base) for figures in (lead, lead + turn)]
        self.assertEqual(triples[0], triples[1])
        for times in range(4):
            number = number_of(lead + turn * times + tail, pace)
            self.assertIs(is_unlike_at(one, other, lag, number), True)
        self.assertIs(duo.is_again(lead, turn, tail), True)

    def test_told_lists_are_the_askers_own(self):
        for _, one, other, lag in made_duos(40, 625):
            duo = Duo(one, other, lag=lag)
            last = duo.last()
            kept = repr(last)
            for part in last[1:]:
                if isinstance(part, list):
                    part.append(9)
            self.assertEqual(repr(duo.last()), kept)
            self.assertEqual(len({id(part) for part in last}), len(last))

    def test_far_last_ones(self):
        # Two voices that count to the third figure: unlike at last at the greatest number of three figures.
        for pace in (2, 3, 4):
            names = ["a", "b", "c"]
            voices = [("a", ("a",) * pace, ((1, 1),) * pace)]
            voices += [(name, (ahead,) * pace, ((0, 1),) * pace) for ahead, name in zip(names, names[1:])]
            choir = Choir(pace, 2, voices)
            ear = [("c", (0, 1))]
            duo = Duo(Run(choir, (0, 0, 0), ear), Run(choir, (1, 1, 1), ear))
            self.assertEqual(duo.last(), ("last", pace ** 2 - 1))
            self.assertEqual(duo.many(10 ** 40), pace ** 2)


class Again(unittest.TestCase):
    def expected(self, one, other, lag, parts):
        pace = one.choir().pace()
        rests = [repr(rest) for rest in range(pace)]
        if not all(type(part) is list and all(repr(rest) in rests for rest in part) for part in parts):
            return False
        lead, turn, tail = parts
        base = len(figures_of(lag, pace))
        if not lead or lead[0] == 0 or not turn or len(tail) < base:
            return False
        triples = [slow_triple(one, other, lag, number_of(figures, pace), base) for figures in (lead, lead + turn)]
        return triples[0] == triples[1] and is_unlike_at(one, other, lag, number_of(lead + tail, pace))

    def test_one_rest_more_less_otherwise_or_out_of_range(self):
        told = {True: 0, False: 0}
        for chance, one, other, lag in made_duos(150, 626):
            duo = Duo(one, other, lag=lag)
            last = duo.last()
            if last[0] != "again":
                continue
            for place in range(3):
                part = last[1 + place]
                at = chance.randint(0, len(part))
                rest = chance.choice([-1, 0, 1, 2, 3, 4])
                news = [part[:at] + [rest] + part[at:], part[:at] + [rest] + part[at + 1:], part[:-1], part[1:], [],
                        [0] + part, [0], tuple(part), part + [True], part + [None], part * 2]
                for new in news:
                    parts = [new if other == place else last[1 + other] for other in range(3)]
                    expected = self.expected(one, other, lag, parts)
                    told[expected] += 1
                    self.assertIs(duo.is_again(*parts), expected, parts)
        self.assertGreater(min(told.values()), 300)

    def test_rows_of_chance(self):
        told = {True: 0, False: 0}
        for chance, one, other, lag in made_duos(100, 627):
            duo = Duo(one, other, lag=lag)
            base = len(figures_of(lag, one.choir().pace()))
            for _ in range(10):
                parts = [[chance.randrange(one.choir().pace()) for _ in range(many)]
                         for many in (chance.randint(1, 4), chance.randint(0, 4), base + chance.randint(-1, 3))
                         if many >= 0]
                if len(parts) == 3:
                    expected = self.expected(one, other, lag, parts)
                    told[expected] += 1
                    self.assertIs(duo.is_again(*parts), expected, parts)
        self.assertGreater(min(told.values()), 50)

    def test_other_things(self):
        for _, one, other, lag in list(made_duos(30, 628)):
            duo = Duo(one, other, lag=lag)
            last = duo.last()
            right = list(last[1:]) if last[0] == "again" else [[1], [0], [0] * 70]
            for odd in ODD + [0, 1, [[1]], [1.5], "1", [10 ** 900], [-1]]:
                for place in range(3):
                    parts = [odd if other == place else right[other] for other in range(3)]
                    self.assertIs(duo.is_again(*parts), self.expected(one, other, lag, parts))
                self.assertIs(duo.is_again(odd, odd, odd), False)
            if last[0] == "again":
                for place in range(3):
                    for new in spoilt(right[place][:3]):
                        parts = [new if other == place else right[other] for other in range(3)]
                        self.assertIs(duo.is_again(*parts), self.expected(one, other, lag, parts), parts)

    def test_a_true_among_the_rests(self):
        duo = Duo(Run(HELD, (0,), EAR), Run(LEFT, (0,), EAR))
        self.assertIs(duo.is_again([1], [1], []), True)
        for parts in [([True], [1], []), ([1], [True], []), ([1], [1], [True]), ([1], [], []), ([0, 1], [1], [])]:
            self.assertIs(duo.is_again(*parts), False)

    def test_long_lists(self):
        duo = Duo(Run(HELD, (0,), EAR), Run(LEFT, (0,), EAR), lag=3)
        self.assertIs(duo.is_again([1] * 1300, [1] * 1300, [0] * 1300), True)
        self.assertIs(duo.is_again([1], [1], [1]), False)
        self.assertIs(duo.is_again([1], [1], [1, 1]), True)


class WhatHangsOnIt(unittest.TestCase):
    def test_asked_by_turns_and_again(self):
        asked = [
            lambda duo: duo.last(), lambda duo: duo.many(10 ** 18), lambda duo: duo.unlike(3), lambda duo: duo.first(9),
            lambda duo: duo.triples(0), lambda duo: duo.ladder(5), lambda duo: duo.is_unlike(7), lambda duo: duo.lag(),
        ]
        for chance, one, other, lag in made_duos(40, 629):
            duo = Duo(one, other, lag=lag)
            first = {place: repr(ask(Duo(one, other, lag=lag))) for place, ask in enumerate(asked)}
            for place in chance.choices(range(len(asked)), k=20):
                self.assertEqual(repr(asked[place](duo)), first[place])

    def test_rising_ones_end(self):
        ends = 0
        for chance in chances(60, 630):
            choir = rising_choir(chance, None, None, chance.randint(1, 2))
            ear = made_ear(chance, choir, 1)
            one = Run(choir, made_standing(chance, choir), ear)
            other = Run(choir, made_standing(chance, choir), ear)
            duo = Duo(one, other)
            if duo.last()[0] != "again":
                ends += 1
                self.assertEqual(duo.many(10 ** 60), duo.many(10 ** 18))
        self.assertGreater(ends, 30)


if __name__ == "__main__":
    unittest.main()
