"""Promise 60, as far as ears and runs go: what is an ear, what a run is made of, how it sounds."""

import unittest

from halfpace.choirs import Choir
from halfpace.ears import Run, heard, is_ear
from halfpace.errors import SongError, Wrong
from tests.slow import ODD, all_standings, chances, made_choir, made_ear, made_standing, slow_behind, spoilt

TWO = Choir(2, 3, [
    ("alto", ("alto", "bass"), ((0, 1, 2), (1, 0, 0))),
    ("bass", ("bass", "bass"), ((0, 1, 2), (1, 1, 1))),
])
EAR = [("alto", (0, 9, 3))]


def ear(choir, thing):
    if type(thing) is not list or not 1 <= len(thing) <= 6:
        return False
    if not all(type(part) is tuple and len(part) == 2 for part in thing):
        return False
    if not all(type(name) is str and name in choir.names() for name, _ in thing):
        return False
    if not all(type(sounds) is tuple and len(sounds) == choir.notes() for _, sounds in thing):
        return False
    return all(type(sound) is int and 0 <= sound <= 9 for _, sounds in thing for sound in sounds)


class Ears(unittest.TestCase):
    def check(self, choir, thing):
        told = is_ear(choir, thing)
        self.assertIs(told, ear(choir, thing), repr(thing)[:200])
        return told

    def test_of_one_to_six_entries(self):
        for chance in chances(40, 600):
            choir = made_choir(chance)
            for many in range(1, 7):
                self.assertIs(self.check(choir, made_ear(chance, choir, many)), True)

    def test_none_and_seven_are_too_few_and_too_many(self):
        self.assertIs(self.check(TWO, []), False)
        self.assertIs(self.check(TWO, EAR * 6), True)
        self.assertIs(self.check(TWO, EAR * 7), False)
        self.assertIs(self.check(TWO, EAR * 1000), False)

    def test_one_name_several_times(self):
        self.assertIs(self.check(TWO, [("alto", (0, 1, 2)), ("alto", (0, 1, 2)), ("alto", (5, 5, 5))]), True)

    def test_sounds_from_0_to_9(self):
        for sound in range(10):
            self.assertIs(self.check(TWO, [("alto", (sound, 0, 9))]), True)
        for sound in (-1, 10, 11, 10 ** 999, True, False, None, "0", (0,), [0]):
            self.assertIs(self.check(TWO, [("alto", (0, sound, 9))]), False)

    def test_a_sound_for_each_note(self):
        for sounds in ((), (0,), (0, 1), (0, 1, 2, 3), [0, 1, 2], "012", {0: 1}, None, 0):
            self.assertIs(self.check(TWO, [("alto", sounds)]), False)

    def test_names_of_the_choir(self):
        for name in ("tenor", "", "Alto", "alto ", None, 0, True, b"alto", ["alto"], ("alto",), {}):
            self.assertIs(self.check(TWO, [(name, (0, 1, 2))]), False)

    def test_spoilt_in_each_part(self):
        for chance in chances(25, 601):
            choir = made_choir(chance)
            for thing in spoilt(made_ear(chance, choir, chance.randint(1, 4))):
                self.check(choir, thing)

    def test_other_things(self):
        others = [0, tuple(EAR), dict(EAR), ["alto"], [("alto",)], [("alto", (0, 1, 2), 1)], [["alto", (0, 1, 2)]]]
        for thing in ODD + others:
            self.assertIs(self.check(TWO, thing), False)


class Runs(unittest.TestCase):
    def test_what_was_handed_in_is_told(self):
        for chance in chances(40, 602):
            choir = made_choir(chance)
            root = made_standing(chance, choir)
            hearing = made_ear(chance, choir, chance.randint(1, 6))
            run = Run(choir, root, hearing)
            self.assertEqual(run.choir(), choir)
            self.assertEqual(run.root(), root)
            self.assertEqual(run.ear(), hearing)
            self.assertIs(type(run.ear()), list)

    def test_sounds_near_and_far(self):
        for chance in chances(40, 603):
            choir = made_choir(chance)
            root = made_standing(chance, choir)
            hearing = made_ear(chance, choir, chance.randint(1, 6))
            run = Run(choir, root, hearing)
            for wait in [*range(40), 10 ** 18, 2 * 10 ** 18, 10 ** 40, 10 ** 80 + 1, choir.pace() ** 30 - 1]:
                sung = dict(zip(choir.names(), slow_behind(choir, root, wait)))
                told = run.sounds(wait)
                self.assertIs(type(told), tuple)
                self.assertEqual(told, tuple(sounds[sung[name]] for name, sounds in hearing))

    def test_sounds_by_hand(self):
        run = Run(TWO, (2, 0), [("bass", (7, 8, 9)), ("alto", (0, 1, 2)), ("bass", (0, 0, 1))])
        self.assertEqual(run.sounds(0), (7, 2, 0))
        self.assertEqual(run.sounds(1), (8, 1, 0))
        self.assertEqual(run.sounds(2), (8, 1, 0))
        self.assertEqual(run.sounds(3), (8, 0, 0))

    def test_standings_are_heard(self):
        for chance in chances(20, 604):
            choir = made_choir(chance)
            hearing = made_ear(chance, choir, 3)
            for standing in all_standings(choir):
                expected = tuple(sounds[standing[choir.names().index(name)]] for name, sounds in hearing)
                self.assertEqual(heard(choir, standing, hearing), expected)


class Refused(unittest.TestCase):
    def refused(self, at, choir, root, hearing):
        with self.assertRaises(SongError, msg=repr((root, hearing))[:200]) as told:
            Run(choir, root, hearing)
        self.assertIs(type(told.exception), Wrong)
        self.assertIs(type(told.exception.at), int)
        self.assertEqual(told.exception.at, at)

    def test_the_first_place_that_is_wrong(self):
        for odd in ODD + [0, (0, 3), (0,), (0, 0, 0), (True, 0), [0, 0], 10 ** 999, Choir, "00"]:
            self.refused(0, odd, (0, 0), EAR)
            self.refused(0, odd, odd, odd)
            self.refused(1, TWO, odd, EAR)
            self.refused(1, TWO, odd, odd)
            self.refused(2, TWO, (0, 0), odd)

    def test_spoilt_in_each_part(self):
        for chance in chances(10, 605):
            choir = made_choir(chance)
            root = made_standing(chance, choir)
            hearing = made_ear(chance, choir, 2)
            for thing in spoilt(hearing):
                if not ear(choir, thing):
                    self.refused(2, choir, root, thing)
                    self.refused(1, choir, root + (0,), thing)
            right = {repr(standing) for standing in all_standings(choir)}
            for thing in spoilt(root):
                if repr(thing) not in right:
                    self.refused(1, choir, thing, hearing)

    def test_of_another_choir(self):
        other = Choir(2, 2, [("zz", ("zz", "zz"), ((0, 1), (1, 0)))])
        self.refused(1, TWO, (0,), EAR)
        self.refused(2, TWO, (0, 0), [("zz", (0, 1))])
        self.refused(2, other, (0,), EAR)


class TheAskersOwn(unittest.TestCase):
    def test_told_ears_are_changed_and_told_again(self):
        run = Run(TWO, (2, 0), EAR)
        told = run.ear()
        told.append(("bass", (0, 0, 0)))
        self.assertEqual(run.ear(), EAR)
        run.ear().clear()
        self.assertEqual(run.ear(), EAR)
        self.assertEqual(run.sounds(0), (3,))
        self.assertIsNot(run.ear(), run.ear())

    def test_handed_ears_are_changed_behind_the_call(self):
        hearing = list(EAR)
        run = Run(TWO, (2, 0), hearing)
        self.assertEqual(hearing, EAR)
        self.assertIsNot(run.ear(), hearing)
        hearing.append(None)
        self.assertIs(is_ear(TWO, hearing), False)
        self.assertEqual(run.ear(), EAR)
        hearing.clear()
        self.assertEqual(run.ear(), EAR)
        for wait in (0, 1, 10 ** 18):
            self.assertEqual(run.sounds(wait), Run(TWO, (2, 0), EAR).sounds(wait))
