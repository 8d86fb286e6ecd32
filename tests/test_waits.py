"""Promises 50, 51, 52: the waits of a root, what shows that they are, and the least wait for a chord."""

import unittest

from halfpace.choirs import Choir
from halfpace.chords import has
from halfpace.waits import are_waits, wait_for, waits
from tests.slow import (
    ODD, all_standings, between, chances, far_enough, has_it, made_choir, made_chord, made_standing, rising_choir,
    slow_behind, slow_led, spoilt,
)


def small_choir(chance):
    """A choir of so few standings that all its waits can be walked one by one."""
    kinds = [(2, 2, 1), (2, 2, 2), (2, 2, 3), (2, 3, 2), (3, 2, 2), (3, 5, 1), (4, 4, 1), (4, 2, 2)]
    return made_choir(chance, *chance.choice(kinds))


def shown(choir, root, thing):
    """What [51] asks for, word by word."""
    pace = choir.pace()
    if type(thing) is not list or not all(type(pair) is tuple and len(pair) == 2 for pair in thing):
        return False
    right = {repr(standing) for standing in all_standings(choir)}
    if not all(repr(standing) in right and type(wait) is int and wait >= 1 for standing, wait in thing):
        return False
    if not all(one[1] < other[1] for one, other in zip(thing, thing[1:])):
        return False
    found = dict(thing)
    if len(found) < len(thing):
        return False

    def by(standing, rest):
        return slow_led(choir, standing, rest)

    rests = range(pace)
    if not all(found.get(by(root, rest), pace) <= rest for rest in rests[1:]):
        return False
    for standing, wait in thing:
        if not all(found.get(by(standing, rest), pace * wait + rest + 1) <= pace * wait + rest for rest in rests):
            return False
    reasons = {(by(root, rest), rest) for rest in rests[1:]}
    reasons |= {(by(standing, rest), pace * wait + rest) for standing, wait in thing for rest in rests}
    return all(pair in reasons for pair in thing)


class Waits(unittest.TestCase):
    def test_against_a_walk_wait_by_wait(self):
        for chance in chances(80, 500):
            choir = small_choir(chance)
            root = made_standing(chance, choir)
            found = {}
            for wait in range(1, choir.pace() ** (len(all_standings(choir)) + 1) if choir.pace() == 2 else 1100):
                found.setdefault(slow_behind(choir, root, wait), wait)
            told = waits(choir, root)
            self.assertIs(type(told), list)
            self.assertTrue(all(type(pair) is tuple for pair in told))
            self.assertEqual(told, list(found.items()))

    def test_rising_waits_each_standing_once_of_all_choirs(self):
        for chance in chances(80, 501):
            choir = made_choir(chance)
            root = made_standing(chance, choir)
            told = waits(choir, root)
            self.assertIs(shown(choir, root, told), True)
            rising = [wait for _, wait in told]
            self.assertEqual(rising, sorted(set(rising)))
            self.assertGreaterEqual(rising[0], 1)
            self.assertEqual(len({standing for standing, _ in told}), len(told))
            for standing, wait in told:
                self.assertEqual(slow_behind(choir, root, wait), standing)
                self.assertNotIn(standing, between(choir, root, 1, wait - 1))
            self.assertEqual({standing for standing, _ in told}, {*between(choir, root, 1, far_enough(choir, 1))})

    def test_a_standing_may_come_late(self):
        far = 0
        for chance in chances(300, 502):
            choir = made_choir(chance, 2, 2, 6)
            far = max(far, waits(choir, made_standing(chance, choir))[-1][1])
        self.assertGreater(far, 2 ** 10)

    def test_the_root_itself_may_be_among_them(self):
        held = Choir(2, 2, [("a", ("a", "a"), ((0, 1), (0, 1)))])
        self.assertEqual(waits(held, (1,)), [((1,), 1)])
        turned = Choir(2, 2, [("a", ("a", "a"), ((0, 1), (1, 0)))])
        self.assertEqual(waits(turned, (0,)), [((1,), 1), ((0,), 3)])
        # The root leads back to itself by 0, but no wait begins with a nought.
        left = Choir(2, 2, [("a", ("a", "a"), ((0, 1), (1, 1)))])
        self.assertEqual(waits(left, (0,)), [((1,), 1)])

    def test_rests_that_lead_to_one_standing(self):
        choir = Choir(4, 2, [("a", ("a",) * 4, ((0, 0), (1, 1), (1, 1), (0, 0)))])
        self.assertEqual(waits(choir, (0,)), [((1,), 1), ((0,), 3)])


class AreWaits(unittest.TestCase):
    def check(self, choir, root, thing):
        told = are_waits(choir, root, thing)
        self.assertIs(told, shown(choir, root, thing), repr(thing)[:300])
        return told

    def test_the_list_of_the_waits_is_one(self):
        for chance in chances(60, 510):
            choir = made_choir(chance)
            root = made_standing(chance, choir)
            self.assertIs(self.check(choir, root, waits(choir, root)), True)

    def test_spoilt_by_any_part(self):
        for chance in chances(25, 511):
            choir = small_choir(chance)
            root = made_standing(chance, choir)
            for thing in spoilt(waits(choir, root)):
                self.check(choir, root, thing)

    def test_spoilt_by_a_wait(self):
        for chance in chances(40, 512):
            choir = made_choir(chance)
            root = made_standing(chance, choir)
            told = waits(choir, root)
            for place, (standing, wait) in enumerate(told):
                for other in (wait - 1, wait + 1, wait * choir.pace(), wait + choir.pace(), 0, 10 ** 999):
                    if other != wait:
                        thing = told[:place] + [(standing, other)] + told[place + 1:]
                        self.assertIs(self.check(choir, root, thing), False)
                        self.assertIs(self.check(choir, root, sorted(thing, key=lambda pair: pair[1])), False)

    def test_a_later_wait_that_comes_as_well(self):
        # A wait that does lead there, but is not the least one.
        choir = Choir(2, 2, [("a", ("a", "a"), ((0, 1), (1, 0)))])
        self.assertIs(self.check(choir, (0,), [((1,), 1), ((0,), 3)]), True)
        for late in (5, 6, 9):
            self.assertIs(self.check(choir, (0,), [((1,), 1), ((0,), late)]), False)
        self.assertIs(self.check(choir, (0,), [((1,), 2), ((0,), 3)]), False)
        self.assertIs(self.check(choir, (0,), [((1,), True), ((0,), 3)]), False)
        self.assertIs(self.check(choir, (0,), [((True,), 1), ((0,), 3)]), False)
        self.assertIs(self.check(choir, (0,), [((1,), 1), ((False,), 3)]), False)

    def test_rows_out_twice_and_exchanged(self):
        for chance in chances(40, 513):
            choir = made_choir(chance)
            root = made_standing(chance, choir)
            told = waits(choir, root)
            for place in range(len(told)):
                self.assertIs(self.check(choir, root, told[:place] + told[place + 1:]), False)
                self.assertIs(self.check(choir, root, told[:place + 1] + told[place:]), False)
                self.assertIs(self.check(choir, root, told + told[place:place + 1]), False)
                if place:
                    exchanged = list(told)
                    exchanged[place - 1:place + 1] = exchanged[place - 1:place + 1][::-1]
                    self.assertIs(self.check(choir, root, exchanged), False)
                    standings = [pair[0] for pair in told]
                    standings[place - 1:place + 1] = standings[place - 1:place + 1][::-1]
                    put = list(zip(standings, [pair[1] for pair in told]))
                    self.assertIs(self.check(choir, root, put), False)

    def test_the_list_of_another_root_or_choir(self):
        for chance in chances(40, 514):
            choir = made_choir(chance)
            root = made_standing(chance, choir)
            for _ in range(4):
                self.check(choir, root, waits(choir, made_standing(chance, choir)))
                other = made_choir(chance)
                self.check(choir, root, waits(other, made_standing(chance, other)))

    def test_a_standing_more(self):
        for chance in chances(40, 515):
            choir = rising_choir(chance)
            root = made_standing(chance, choir)
            told = waits(choir, root)
            for standing in all_standings(choir)[:10]:
                for wait in (1, 2, told[-1][1] + 1, choir.pace() * told[-1][1] + 1):
                    self.check(choir, root, sorted(told + [(standing, wait)], key=lambda pair: pair[1]))

    def test_other_things(self):
        choir = Choir(2, 2, [("a", ("a", "a"), ((0, 1), (1, 0)))])
        for thing in ODD + [(((1,), 1), ((0,), 3)), [[(1,), 1], [(0,), 3]], [((1,), 1)], {(1,): 1}, [((1,), 1, 1)], 0]:
            self.assertIs(self.check(choir, (0,), thing), False)
        self.assertIs(are_waits(choir, (0,), [((1,), 1)] * 37500), False)


class WaitFor(unittest.TestCase):
    def test_against_a_walk(self):
        for chance in chances(60, 520):
            choir = small_choir(chance)
            root = made_standing(chance, choir)
            chord = made_chord(chance, choir)
            found = [wait for wait in range(600) if has(choir, slow_behind(choir, root, wait), chord)]
            for start in range(40):
                told = wait_for(choir, root, start, chord)
                expected = next((wait for wait in found if wait >= start), None)
                if expected is not None:
                    self.assertEqual(told, expected)
                else:
                    self.assertTrue(told is None or told >= 600)

    def check(self, choir, root, start, chord):
        told = wait_for(choir, root, start, chord)
        if told is None:
            last = far_enough(choir, start)
        else:
            self.assertIs(type(told), int)
            self.assertGreaterEqual(told, start)
            self.assertTrue(has_it(choir, slow_behind(choir, root, told), chord))
            last = told - 1
        self.assertFalse(any(has_it(choir, standing, chord) for standing in between(choir, root, start, last)))
        return told

    def test_from_small_waits_powers_of_the_pace_and_far_ones(self):
        nones = 0
        for chance in chances(60, 521):
            choir = rising_choir(chance) if chance.random() < 0.4 else made_choir(chance)
            root = made_standing(chance, choir)
            chord = made_chord(chance, choir)
            starts = [0, 1, 2, 3, 10 ** 18 - 1, 10 ** 18, 10 ** 18 + 1, 10 ** 40]
            for power in (1, 2, 3, 8, 30):
                starts += [choir.pace() ** power - 1, choir.pace() ** power, choir.pace() ** power + 1]
            for start in chance.sample(starts, 6):
                nones += self.check(choir, root, start, chord) is None
        self.assertGreater(nones, 20)

    def test_the_chord_of_no_name_is_there_at_once(self):
        for chance in chances(20, 522):
            choir = made_choir(chance)
            root = made_standing(chance, choir)
            for start in (0, 1, 7, 10 ** 18, 10 ** 40, 10 ** 80):
                self.assertEqual(wait_for(choir, root, start, []), start)

    def test_a_root_that_has_the_chord(self):
        for chance in chances(20, 523):
            choir = made_choir(chance)
            root = made_standing(chance, choir)
            self.assertEqual(wait_for(choir, root, 0, list(zip(choir.names(), root))), 0)

    def test_by_the_waits(self):
        # From 1 on the least wait is that of the first standing of the waits that has the chord.
        for chance in chances(60, 524):
            choir = made_choir(chance)
            root = made_standing(chance, choir)
            chord = made_chord(chance, choir)
            expected = next((wait for standing, wait in waits(choir, root) if has_it(choir, standing, chord)), None)
            self.assertEqual(wait_for(choir, root, 1, chord), expected)

    def test_none_where_it_never_comes(self):
        held = Choir(3, 3, [("a", ("a",) * 3, ((0, 1, 2),) * 3), ("b", ("a",) * 3, ((1, 2, 0),) * 3)])
        for start in (0, 1, 10 ** 40):
            self.assertIsNone(wait_for(held, (0, 1), start, [("a", 1)]))
            self.assertIsNone(wait_for(held, (0, 1), start, [("b", 0)]))
            self.assertEqual(wait_for(held, (0, 1), start, [("b", 1), ("a", 0)]), start)
        left = Choir(2, 2, [("a", ("a", "a"), ((1, 1), (1, 1)))])
        self.assertEqual(wait_for(left, (0,), 0, [("a", 0)]), 0)
        self.assertIsNone(wait_for(left, (0,), 1, [("a", 0)]))


class TheAskersOwn(unittest.TestCase):
    def test_told_lists_are_changed_and_told_again(self):
        for chance in chances(20, 530):
            choir = made_choir(chance)
            root = made_standing(chance, choir)
            told = waits(choir, root)
            kept = list(told)
            self.assertIs(are_waits(choir, root, told), True)
            self.assertEqual(told, kept)
            told.append(told[0])
            self.assertIs(are_waits(choir, root, told), False)
            told.clear()
            self.assertIs(are_waits(choir, root, told), False)
            self.assertEqual(waits(choir, root), kept)

    def test_a_chord_changed_behind_the_call(self):
        turned = Choir(2, 2, [("a", ("a", "a"), ((0, 1), (1, 0)))])
        chord = [("a", 1)]
        self.assertEqual(wait_for(turned, (0,), 0, chord), 1)
        self.assertEqual(chord, [("a", 1)])
        chord[0] = ("a", 0)
        self.assertEqual(wait_for(turned, (0,), 0, chord), 0)
        self.assertEqual(wait_for(turned, (0,), 1, chord), 3)
        chord.clear()
        self.assertEqual(wait_for(turned, (0,), 1, chord), 1)
