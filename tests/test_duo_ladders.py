"""Promise 63: ladders that show that a duo is unlike at no number from a number on."""

import unittest

from halfpace.choirs import Choir
from halfpace.duos import Duo
from halfpace.ears import Run
from tests.slow import (
    ODD, SlowDuo, all_standings, is_unlike_at, made_duos, slow_heard, slow_triple, spoilt,
)

HELD = Choir(2, 2, [("a", ("a", "a"), ((0, 1), (0, 1)))])
LEFT = Choir(2, 2, [("a", ("a", "a"), ((1, 1), (1, 1)))])
EAR = [("a", (0, 1))]


class Asked:
    """What [63] asks for of a ladder of a duo from a number on, word by word."""

    def __init__(self, one, other, lag, start):
        self.slow = SlowDuo(one, other, lag)
        self.pace = one.choir().pace()
        self.start = start
        self.many = self.slow.base
        while self.pace ** self.many <= start:
            self.many += 1
        firsts = all_standings(one.choir())
        others = all_standings(other.choir())
        if lag:
            self.right = {repr((x, y, z)) for x in firsts for y in others for z in others}
        else:
            self.right = {repr((x, y)) for x in firsts for y in others}
        self.always = [self.owed(place) for place in range(self.many + 1)]
        self.unlike_at_start = is_unlike_at(one, other, lag, start)

    def owed(self, place):
        """What the list at a place has whatever the lists are."""
        slow = self.slow
        k = self.many - place
        if place == 0:
            numbers = range(1, self.pace)
        else:
            numbers = range(self.start // self.pace ** k + 1, self.pace * (self.start // self.pace ** (k + 1) + 1))
        return {slow_triple(slow.one, slow.other, slow.lag, number, k) for number in numbers}

    def by_any(self, row, level):
        return {self.slow.led(triple, rest, level) for triple in row for rest in range(self.pace)}

    def sounds_alike(self, triple):
        one = slow_heard(self.slow.one.choir(), triple[0], self.slow.one.ear())
        return one == slow_heard(self.slow.other.choir(), triple[1], self.slow.other.ear())

    def is_one(self, thing):
        if type(thing) is not list or len(thing) != self.many + 1 or not all(type(row) is list for row in thing):
            return False
        if not all(repr(triple) in self.right for row in thing for triple in row):
            return False
        for place, row in enumerate(thing):
            ahead = thing[max(place - 1, 0)]
            level = self.many - place
            if not self.always[place] | self.by_any(set(ahead), level) <= set(row):
                return False
        return not self.unlike_at_start and all(self.sounds_alike(triple) for triple in thing[-1])

    def least(self):
        """The lists with just what they need."""
        rows = [set(self.always[0])]
        while not self.by_any(rows[0], self.many) <= rows[0]:
            rows[0] |= self.by_any(rows[0], self.many)
        for place in range(1, self.many + 1):
            rows.append(self.always[place] | self.by_any(rows[-1], self.many - place))
        return [sorted(row) for row in rows]


def ladders(many, seed, near=False):
    """Duos, mostly such as end, with numbers from which on a ladder is asked for."""
    for chance, one, other, lag in made_duos(many, seed):
        if near and lag > 100:
            continue
        duo = Duo(one, other, lag=lag)
        pace = one.choir().pace()
        starts = [0, 1, 2, pace ** 3, pace ** 3 - 1, chance.randint(3, 60), 10 ** 18, 10 ** 40, chance.randrange(10 ** 40)]
        last = duo.last()
        if last[0] == "last":
            starts = [last[1], last[1] + 1] + starts
        for start in chance.sample(starts[:6] if near else starts, 3):
            yield chance, one, other, lag, start


class Told(unittest.TestCase):
    def test_just_what_the_lists_need_each_sorted(self):
        told_ones = 0
        for _, one, other, lag, start in ladders(160, 630):
            duo = Duo(one, other, lag=lag)
            told = duo.ladder(start)
            self.assertEqual(told is None, duo.first(start) is not None)
            if told is not None:
                told_ones += 1
                asked = Asked(one, other, lag, start)
                self.assertIs(type(told), list)
                self.assertTrue(all(type(row) is list for row in told))
                self.assertEqual(told, asked.least())
                self.assertIs(asked.is_one(told), True)
                self.assertIs(duo.is_ladder(start, told), True)
        self.assertGreater(told_ones, 80)

    def test_by_hand(self):
        duo = Duo(Run(HELD, (1,), EAR), Run(LEFT, (0,), EAR))
        self.assertIsNone(duo.ladder(0))
        self.assertEqual(duo.ladder(1), [[((1,), (1,))]] * 2)
        self.assertEqual(duo.ladder(10 ** 18), [[((1,), (1,))]] * 61)
        ahead = Duo(Run(HELD, (1,), EAR), Run(LEFT, (0,), EAR), lag=2)
        self.assertEqual(ahead.ladder(0), [[((1,), (1,), (1,))]] * 3)
        self.assertEqual(Duo(Run(HELD, (1,), EAR), Run(HELD, (1,), EAR)).ladder(0), [[((1,), (1,))]])

    def test_from_the_last_one_on(self):
        ends = 0
        for _, one, other, lag in made_duos(120, 631):
            duo = Duo(one, other, lag=lag)
            last = duo.last()
            if last[0] == "last":
                ends += 1
                self.assertIsNone(duo.ladder(last[1]))
                self.assertIsNotNone(duo.ladder(last[1] + 1))
            else:
                self.assertEqual(duo.ladder(0) is None, last[0] == "again")
        self.assertGreater(ends, 5)


class Read(unittest.TestCase):
    def check(self, one, other, lag, start, thing):
        handed = (one, other, lag, start)
        # Many papers are asked of the same duo one behind another.
        if getattr(self, "handed", None) != handed:
            self.handed = handed
            self.asked = Asked(*handed)
            self.duo = Duo(one, other, lag=lag)
        told = self.duo.is_ladder(start, thing)
        self.assertIs(told, self.asked.is_one(thing), repr(thing)[:300])
        return told

    def some(self, many, seed, near=False):
        for chance, one, other, lag, start in ladders(many, seed, near):
            told = Duo(one, other, lag=lag).ladder(start)
            if told is not None:
                yield chance, (one, other, lag, start), told

    def test_spoilt_by_any_part(self):
        seen = 0
        for _, handed, told in self.some(120, 632, True):
            if len(told) <= 4 and len(told[0]) <= 3 and seen < 15:
                seen += 1
                for thing in spoilt(told):
                    self.check(*handed, thing)
        self.assertGreater(seen, 10)

    def test_a_triple_out_more_twice_and_turned_about(self):
        for chance, handed, told in self.some(100, 633):
            one, other = handed[:2]
            for place in chance.sample(range(len(told)), min(len(told), 3)):
                row = told[place]
                at = chance.randrange(len(row)) if row else 0
                more = (chance.choice(all_standings(one.choir())),)
                more += tuple(chance.choice(all_standings(other.choir())) for _ in range(2 if handed[2] else 1))
                rows = [row + [more], [more] + row, [triple[::-1] for triple in row], row + [more[:1] + more]]
                for new in rows + [[]]:
                    self.check(*handed, told[:place] + [new] + told[place + 1:])
                # What a list has just so it needs, so it is no ladder without.
                if row:
                    out = told[:place] + [row[:at] + row[at + 1:]] + told[place + 1:]
                    self.assertIs(self.check(*handed, out), False)
                self.assertIs(self.check(*handed, told[:place] + [row + row] + told[place + 1:]), True)
                self.assertIs(self.check(*handed, told[:place] + [row[::-1]] + told[place + 1:]), True)

    def test_triples_of_no_number_do_no_harm_where_their_ways_stand_behind(self):
        right = 0
        for chance, handed, told in self.some(120, 634, True):
            one, other, lag, _ = handed
            slow = Asked(*handed)
            for _ in range(6):
                more = (chance.choice(all_standings(one.choir())),)
                more += tuple(chance.choice(all_standings(other.choir())) for _ in range(2 if lag else 1))
                place = chance.choice([0, len(told) - 1, chance.randrange(len(told))])
                # With it, and with all that comes from it, if the last list lets it.
                rows = [list(row) for row in told]
                coming = {more}
                for at in range(place, len(told)):
                    if at == 0:
                        while not slow.by_any(coming, slow.many) <= coming:
                            coming |= slow.by_any(coming, slow.many)
                    rows[at].extend(sorted(coming - set(rows[at])))
                    if at + 1 < len(told):
                        coming = slow.by_any(coming, slow.many - at - 1)
                right += self.check(*handed, rows)
                rows[place].append(more)
                self.check(*handed, [row if at != place + 1 else told[at] for at, row in enumerate(rows)])
        self.assertGreater(right, 30)

    def test_lists_out_twice_and_exchanged(self):
        for chance, handed, told in self.some(100, 635):
            for place in {0, len(told) - 1, chance.randrange(len(told))}:
                self.assertIs(self.check(*handed, told[:place] + told[place + 1:]), False)
                self.assertIs(self.check(*handed, told[:place + 1] + told[place:]), False)
                if place:
                    exchanged = list(told)
                    exchanged[place - 1:place + 1] = exchanged[place - 1:place + 1][::-1]
                    self.check(*handed, exchanged)
            self.check(*handed, told[::-1])
            self.check(*handed, [told[0]] * len(told))
            self.check(*handed, [[]] * len(told))

    def test_tuples_for_lists_and_what_is_no_list(self):
        for _, handed, told in self.some(40, 636):
            self.assertIs(self.check(*handed, tuple(told)), False)
            self.assertIs(self.check(*handed, [tuple(row) for row in told]), False)
            self.assertIs(self.check(*handed, [[list(triple) for triple in row] for row in told]), False)
            shorter = [[triple[:-1] for triple in row] for row in told]
            longer = [[triple + triple[-1:] for triple in row] for row in told]
            self.check(*handed, shorter)
            self.check(*handed, longer)
            for thing in ODD + [0, 1, [[]], [None] * len(told), [{}] * len(told), [""] * len(told), [0] * len(told)]:
                self.check(*handed, thing)

    def test_pairs_and_triples(self):
        runs = (Run(HELD, (1,), EAR), Run(LEFT, (0,), EAR))
        pairs = [[((1,), (1,))]] * 3
        triples = [[((1,), (1,), (1,))]] * 3
        self.assertIs(self.check(*runs, 0, 2, pairs), True)
        self.assertIs(self.check(*runs, 0, 2, triples), False)
        self.assertIs(self.check(*runs, 2, 2, triples), True)
        self.assertIs(self.check(*runs, 2, 2, pairs), False)
        self.assertIs(self.check(*runs, 2, 2, triples[:2] + [[((1,), (1,), (True,))]]), False)

    def test_the_number_itself_must_not_be_unlike(self):
        runs = (Run(HELD, (1,), EAR), Run(LEFT, (0,), EAR))
        self.assertIs(self.check(*runs, 0, 0, [[((1,), (1,))]]), False)
        self.assertIs(self.check(*runs, 0, 1, [[((1,), (1,))]] * 2), True)

    def test_where_it_is_unlike_nothing_is_a_ladder(self):
        for _, one, other, lag, start in ladders(30, 637, True):
            if Duo(one, other, lag=lag).first(start) is not None:
                asked = Asked(one, other, lag, start)
                self.assertIs(self.check(one, other, lag, start, asked.least()), False)
                self.assertIs(self.check(one, other, lag, start, [[]] * (asked.many + 1)), False)

    def test_a_ladder_of_another_number(self):
        for _, handed, told in self.some(60, 638):
            for start in (handed[3] + 1, handed[3] + 2, max(handed[3] - 1, 0), 0):
                self.check(*handed[:3], start, told)

    def test_great_papers(self):
        duo = Duo(Run(HELD, (1,), EAR), Run(LEFT, (0,), EAR), lag=1)
        row = [((1,), (1,), (1,))] * 9000
        self.assertIs(duo.is_ladder(1, [row, row]), True)
        self.assertIs(duo.is_ladder(1, [row, row + [((1,), (0,), (1,))]]), False)
        self.assertIs(duo.is_ladder(1, [[]] * 140000), False)


class TheAskersOwn(unittest.TestCase):
    def test_told_ladders_are_changed_at_all_depths_and_told_again(self):
        for _, one, other, lag, start in ladders(80, 639):
            duo = Duo(one, other, lag=lag)
            told = duo.ladder(start)
            if told is None:
                continue
            self.assertEqual(len({id(row) for row in told}), len(told))
            kept = [list(row) for row in told]
            self.assertIs(duo.is_ladder(start, told), True)
            self.assertEqual(told, kept)
            for row in told:
                row.append(None)
            self.assertIs(duo.is_ladder(start, told), False)
            self.assertEqual(duo.ladder(start), kept)
            told.clear()
            self.assertIs(duo.is_ladder(start, told), False)
            self.assertEqual(duo.ladder(start), kept)

    def test_an_ear_changed_behind_a_call(self):
        ear = list(EAR)
        duo = Duo(Run(HELD, (0,), ear), Run(LEFT, (0,), ear))
        ear[0] = ("a", (5, 5))
        self.assertEqual(duo.first(0), 1)
        self.assertIsNone(duo.ladder(1))
        self.assertEqual(duo.last()[0], "again")
        self.assertEqual(Duo(Run(HELD, (0,), ear), Run(LEFT, (0,), ear)).last(), ("alike",))


class Kinds(unittest.TestCase):
    def test_there_are_enough_near_and_far_with_and_without(self):
        kinds = {(far, none): 0 for far in (False, True) for none in (False, True)}
        for _, one, other, lag, start in ladders(160, 630):
            kinds[start > 10 ** 6, Duo(one, other, lag=lag).ladder(start) is None] += 1
        self.assertGreater(min(kinds.values()), 20)


if __name__ == "__main__":
    unittest.main()
