"""Promises 82 and 83: how soon, with so many hands, a chord comes, and the prices that show it."""

import unittest

from halfpace.choirs import Choir
from halfpace.waits import wait_for, waits
from halfpace.wishes import are_prices, prices, soonest, soonest_row
from tests.slow import (
    ODD, all_standings, chances, has_it, made_chord, made_choir, made_standing, rising_choir, slow_behind, slow_put,
    spoilt,
)

HELD = Choir(2, 2, [("a", ("a", "a"), ((0, 1), (0, 1)))])
LEFT = Choir(2, 2, [("a", ("a", "a"), ((1, 1), (1, 1)))])
LAST = 26


def made_hands(chance, choir):
    """One to four hands: some (name, note), or none."""
    return [
        [(name, chance.randrange(choir.notes())) for name in chance.sample(choir.names(), chance.randint(0, len(choir)))]
        for _ in range(chance.randint(1, 4))
    ]


def made_wait(chance, pace):
    kind = chance.randrange(3)
    if kind == 0:
        return chance.choice([0, 0, 1, 2, 3])
    if kind == 1:
        return chance.randint(4, 200)
    return chance.choice([10 ** 18, chance.randrange(10 ** 18), pace ** chance.randint(2, 29) + chance.choice([-1, 0, 1])])


def wishes(many, seed):
    for place, chance in enumerate(chances(many, seed)):
        choir = made_choir(chance) if place % 4 == 0 else small_choir(chance)
        root = made_standing(chance, choir)
        yield chance, choir, root, made_wait(chance, choir.pace()), made_chord(chance, choir), made_hands(chance, choir)


def small_choir(chance):
    notes = chance.randint(2, 4)
    made = rising_choir if chance.random() < 0.6 else made_choir
    return made(chance, None, notes, chance.randint(1, 2))


def slow_soonest(choir, root, wait, chord, hands, most, last):
    """For each number of hands the least beats, to a last one, beat by beat; None where there are none so far."""
    now = {(root, wait): 0}
    told = [None] * (most + 1)
    for beat in range(last + 1):
        waiting = sorted(now, key=lambda state: now[state])
        for state in waiting:
            many = now[state]
            sung = slow_behind(choir, *state)
            if has_it(choir, sung, chord):
                for place in range(many, most + 1):
                    told[place] = beat if told[place] is None else told[place]
            if many < most:
                for hand in hands:
                    put = (slow_put(choir, sung, dict(hand)), 0)
                    if now.get(put, most + 1) > many + 1:
                        now[put] = many + 1
                        waiting.append(put)
        now = {(own, behind + 1): many for (own, behind), many in now.items()}
    return told


def slow_prices(choir, chord, hands, most):
    """Prices as a reader looks at them: each root itself, each of its waits, and each hand there."""
    told = []
    trails = {
        root: [(root, 0)] + waits(choir, root) for root in all_standings(choir)
    }
    for many in range(most + 1):
        row = []
        for root, trail in sorted(trails.items()):
            beats = [wait for standing, wait in trail if has_it(choir, standing, chord)]
            if many:
                behind = dict(told[-1])
                for standing, wait in trail:
                    for hand in hands:
                        more = behind[slow_put(choir, standing, dict(hand))]
                        beats += [] if more is None else [wait + more]
            row.append((root, min(beats, default=None)))
        told.append(row)
    return told


def beats_of(row):
    return sum(part for part in row if not isinstance(part, tuple))


def hands_of(row):
    return len([part for part in row if isinstance(part, tuple)])


class Soonest(unittest.TestCase):
    def test_against_a_walk(self):
        kinds = {"now": 0, "later": 0, "never": 0, "sooner": 0}
        for chance, choir, root, wait, chord, hands in wishes(160, 820):
            most = chance.randint(0, 4)
            told = soonest(choir, root, wait, chord, hands, most)
            self.assertIs(type(told), list)
            self.assertEqual(len(told), most + 1)
            expected = slow_soonest(choir, root, wait, chord, hands, most, LAST)
            for beats, least in zip(told, expected):
                if least is None:
                    self.assertTrue(beats is None or beats > LAST)
                else:
                    self.assertEqual(beats, least)
                kinds["never" if beats is None else "later" if beats else "now"] += 1
            for beats, fewer in zip(told[1:], told):
                kinds["sooner"] += beats != fewer
                # More hands never cost more.
                self.assertTrue(fewer is None or beats is not None and beats <= fewer)
        self.assertGreater(min(kinds.values()), 25)

    def test_the_first_is_by_52(self):
        for chance, choir, root, wait, chord, hands in wishes(100, 821):
            least = wait_for(choir, root, wait, chord)
            told = soonest(choir, root, wait, chord, hands, chance.randint(0, 8))
            self.assertEqual(told[0], None if least is None else least - wait)

    def test_the_chord_of_no_name(self):
        for chance, choir, root, wait, _, hands in wishes(30, 822):
            self.assertEqual(soonest(choir, root, wait, [], hands, 8), [0] * 9)
            self.assertEqual(soonest_row(choir, root, wait, [], hands, 8), ("row", []))

    def test_no_hand_let(self):
        self.assertEqual(soonest(LEFT, (0,), 0, [("a", 0)], [[]], 0), [0])
        self.assertEqual(soonest(LEFT, (0,), 1, [("a", 0)], [[]], 0), [None])
        self.assertEqual(soonest_row(LEFT, (0,), 1, [("a", 0)], [[]], 0), ("never", [(1,)]))
        self.assertEqual(soonest_row(LEFT, (0,), 0, [("a", 1)], [[]], 0), ("row", [1]))
        self.assertEqual(soonest(LEFT, (0,), 0, [("a", 1)], [[("a", 1)]], 2), [1, 0, 0])
        self.assertEqual(soonest_row(LEFT, (0,), 0, [("a", 1)], [[("a", 1)]], 2), ("row", [("hand", 0)]))

    def test_by_price_of_the_roots_from_now_on(self):
        for chance, choir, root, wait, chord, hands in wishes(60, 823):
            told = soonest(choir, root, wait, chord, hands, 8)
            price = [dict(row) for row in slow_prices(choir, chord, hands, 8)]
            sung = slow_behind(choir, root, wait)
            if wait == 0:
                self.assertEqual(told, [row[root] for row in price])
            for many in range(1, 9):
                for hand in hands:
                    by_hand = price[many - 1][slow_put(choir, sung, dict(hand))]
                    if by_hand is not None:
                        self.assertLessEqual(told[many], by_hand)


class Rows(unittest.TestCase):
    def test_of_just_the_last_ones_beats(self):
        kinds = {"row": 0, "never": 0, "hands": 0}
        for chance, choir, root, wait, chord, hands in wishes(250, 824):
            most = chance.randint(0, 4)
            least = soonest(choir, root, wait, chord, hands, most)[-1]
            told = soonest_row(choir, root, wait, chord, hands, most)
            self.assertIs(type(told), tuple)
            self.assertEqual(len(told), 2)
            kinds[told[0]] += 1
            self.assertEqual(told[0], "never" if least is None else "row")
            if least is None:
                self.never(choir, root, wait, chord, hands, most, told[1])
                continue
            kinds["hands"] += hands_of(told[1]) > 0
            self.row(choir, root, wait, chord, hands, told[1])
            self.assertEqual(beats_of(told[1]), least)
            self.assertLessEqual(hands_of(told[1]), most)
        self.assertGreater(min(kinds.values()), 25)

    def row(self, choir, root, wait, chord, hands, row):
        was_wait = False
        for part in row:
            if isinstance(part, tuple):
                self.assertEqual((len(part), part[0]), (2, "hand"))
                root = slow_put(choir, slow_behind(choir, root, wait), dict(hands[part[1]]))
                wait = 0
            else:
                self.assertFalse(was_wait)
                self.assertGreaterEqual(part, 1)
                wait += part
            was_wait = not isinstance(part, tuple)
        self.assertIs(has_it(choir, slow_behind(choir, root, wait), chord), True)

    def never(self, choir, root, wait, chord, hands, most, standings):
        self.assertEqual(standings, sorted(set(standings)))
        near = {slow_behind(choir, root, wait + more) for more in range(120)}
        self.assertLessEqual(near, set(standings))
        self.assertLessEqual(set(standings), {root} | {standing for standing, _ in waits(choir, root)})
        for standing in standings:
            by_standing = [(name, note) for name, note in zip(choir.names(), standing)]
            self.assertIsNotNone(wait_for(choir, root, wait, by_standing))
            self.assertIs(has_it(choir, standing, chord), False)
            if most:
                price = dict(slow_prices(choir, chord, hands, most - 1)[-1])
                for hand in hands:
                    self.assertIsNone(price[slow_put(choir, standing, dict(hand))])

    def test_never_has_just_what_comes_from_the_wait_on(self):
        for _, choir, root, wait, chord, hands in wishes(120, 825):
            told = soonest_row(choir, root, wait, chord, hands, 0)
            if told[0] == "never":
                expected = [
                    standing for standing in all_standings(choir)
                    if wait_for(choir, root, wait, list(zip(choir.names(), standing))) is not None
                ]
                self.assertEqual(told[1], expected)

    def test_told_lists_are_the_askers_own(self):
        for _, choir, root, wait, chord, hands in wishes(40, 826):
            for ask in (soonest, soonest_row):
                told = ask(choir, root, wait, chord, hands, 3)
                kept = repr(told)
                (told if ask is soonest else told[1]).append(None)
                self.assertEqual(repr(ask(choir, root, wait, chord, hands, 3)), kept)


class Prices(unittest.TestCase):
    def test_for_all_standings_sorted(self):
        for chance, choir, _, _, chord, hands in wishes(80, 830):
            most = chance.randint(0, 8)
            told = prices(choir, chord, hands, most)
            self.assertIs(type(told), list)
            self.assertEqual(told, slow_prices(choir, chord, hands, most))
            self.assertEqual([root for root, _ in told[0]], all_standings(choir))
            self.assertIs(are_prices(choir, chord, hands, most, told), True)
            self.assertEqual(len({id(row) for row in told}), most + 1)

    def test_more_hands_never_cost_more(self):
        for _, choir, _, _, chord, hands in wishes(60, 831):
            told = prices(choir, chord, hands, 8)
            for fewer, more in zip(told, told[1:]):
                for (_, ahead), (_, beats) in zip(fewer, more):
                    self.assertTrue(ahead is None or beats is not None and beats <= ahead)

    def test_the_chord_of_no_name_costs_nothing(self):
        for _, choir, _, _, _, hands in wishes(20, 832):
            self.assertEqual(prices(choir, [], hands, 2), [[(root, 0) for root in all_standings(choir)]] * 3)

    def test_by_hand(self):
        self.assertEqual(prices(LEFT, [("a", 0)], [[("a", 0)]], 1), [[((0,), 0), ((1,), None)], [((0,), 0), ((1,), 0)]])
        self.assertEqual(prices(LEFT, [("a", 1)], [[]], 1), [[((0,), 1), ((1,), 0)]] * 2)
        self.assertEqual(prices(HELD, [("a", 1)], [[]], 0), [[((0,), None), ((1,), 0)]])

    def test_each_hand_is_one_more(self):
        # From b's next note on a sings: a breath is needed for each step, as is a beat.
        choir = Choir(2, 4, [
            ("a", ("a", "a"), ((0, 1, 2, 3), (1, 2, 3, 3))),
        ])
        told = prices(choir, [("a", 3)], [[]], 4)
        # Without a hand by the least wait of three figures 1; with breaths by one beat each.
        self.assertEqual([row[0][1] for row in told], [7, 4, 3, 3, 3])


class Read(unittest.TestCase):
    def check(self, handed, thing):
        # Many papers are asked of the same choir one behind another.
        if getattr(self, "handed", None) != handed:
            self.handed = handed
            self.right = repr(slow_prices(*handed))
        told = are_prices(*handed, thing)
        self.assertIs(told, repr(thing) == self.right, repr(thing)[:300])
        return told

    def some(self, many, seed):
        for chance, choir, _, _, chord, hands in wishes(many, seed):
            most = chance.randint(0, 2)
            if len(all_standings(choir)) <= 16:
                yield chance, (choir, chord, hands, most), prices(choir, chord, hands, most)

    def test_spoilt_at_a_place(self):
        for chance, handed, told in self.some(40, 833):
            self.assertIs(self.check(handed, told), True)
            for _ in range(6):
                place = chance.randrange(len(told))
                at = chance.randrange(len(told[place]))
                root, beats = told[place][at]
                numbers = [None, 0, 1, -1, 10 ** 900, True, False, "0", [0]]
                numbers += [] if beats is None else [beats + 1, beats - 1]
                parts = [(root, number) for number in numbers] + [[root, beats], (list(root), beats), (root,), root]
                parts += [(root, beats, beats), (beats, root), (tuple(map(bool, root)), beats), None, 1.5, (root, 0.5)]
                for part in parts:
                    row = told[place][:at] + [part] + told[place][at + 1:]
                    self.check(handed, told[:place] + [row] + told[place + 1:])
                rows = [told[place][:at] + told[place][at + 1:], told[place] + told[place][at:at + 1],
                        told[place][::-1], tuple(told[place]), [], None]
                for row in rows:
                    self.check(handed, told[:place] + [row] + told[place + 1:])
                self.check(handed, told[:place] + told[place + 1:])
                self.check(handed, told[:place + 1] + told[place:])
            self.check(handed, told[::-1])
            self.check(handed, tuple(told))
            self.check(handed, told + [[]])

    def test_spoilt_by_any_part(self):
        seen = 0
        for _, handed, told in self.some(40, 834):
            if len(told[0]) <= 4 and seen < 6:
                seen += 1
                right = repr(slow_prices(*handed))
                for thing in spoilt(told):
                    self.assertIs(are_prices(*handed, thing), repr(thing) == right)
        self.assertEqual(seen, 6)

    def test_other_things(self):
        handed = (HELD, [("a", 1)], [[]], 1)
        for thing in ODD + [0, 1, [[]], [[], []], [None, None], "[]", [[]] * 140000]:
            self.assertIs(are_prices(*handed, thing), False)
        right = [((0,), None), ((1,), 0)]
        self.assertIs(are_prices(*handed, [right, right]), True)
        self.assertIs(are_prices(*handed, [right, [((0,), None), ((1,), False)]]), False)
        self.assertIs(are_prices(*handed, [right, [((0,), None), ((True,), 0)]]), False)
        self.assertIs(are_prices(*handed, [right]), False)
        self.assertIs(are_prices(*handed, [right * 10000, right * 10000]), False)


class WhatHangsOnIt(unittest.TestCase):
    def test_hands_and_chords_stay_and_are_asked_anew(self):
        chord = [("a", 1)]
        hands = [[("a", 0)]]
        self.assertEqual(soonest(HELD, (0,), 5, chord, hands, 1), [None, None])
        paper = prices(HELD, chord, hands, 1)
        self.assertEqual((chord, hands), ([("a", 1)], [[("a", 0)]]))
        hands[0][0] = ("a", 1)
        self.assertEqual(soonest(HELD, (0,), 5, chord, hands, 1), [None, 0])
        self.assertEqual(soonest_row(HELD, (0,), 5, chord, hands, 1), ("row", [("hand", 0)]))
        self.assertIs(are_prices(HELD, chord, hands, 1, paper), False)
        chord[0] = ("a", 0)
        self.assertEqual(soonest(HELD, (0,), 5, chord, hands, 1), [0, 0])
        hands.clear()
        hands.append([])
        self.assertEqual(soonest(HELD, (1,), 5, chord, hands, 1), [None, None])
        paper = prices(HELD, chord, hands, 1)
        kept = repr(paper)
        paper[1].pop()
        self.assertIs(are_prices(HELD, chord, hands, 1, paper), False)
        paper.clear()
        self.assertEqual(repr(prices(HELD, chord, hands, 1)), kept)


if __name__ == "__main__":
    unittest.main()
