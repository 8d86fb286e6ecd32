"""Promise 40: of whatever is handed in, whether it is a chord; whether a standing has one."""

import unittest

from halfpace.choirs import Choir
from halfpace.chords import has, is_chord
from tests.slow import ODD, all_standings, chances, made_choir, made_chord, spoilt

TWO = Choir(2, 3, [("alto", ("alto", "bass"), ((0, 1, 2),) * 2), ("bass", ("bass", "bass"), ((0, 1, 1),) * 2)])


def chord(choir, thing):
    if type(thing) is not list or not all(type(part) is tuple and len(part) == 2 for part in thing):
        return False
    if not all(type(name) is str and name in choir.names() for name, _ in thing):
        return False
    if len({name for name, _ in thing}) < len(thing):
        return False
    return all(type(note) is int and 0 <= note < choir.notes() for _, note in thing)


class Chords(unittest.TestCase):
    def check(self, choir, thing):
        self.assertIs(is_chord(choir, thing), chord(choir, thing), repr(thing)[:200])

    def test_chords_of_no_name_of_some_and_of_all(self):
        for chance in chances(60, 400):
            choir = made_choir(chance)
            for many in range(len(choir) + 1):
                self.assertIs(is_chord(choir, made_chord(chance, choir, many)), True)

    def test_spoilt_ones(self):
        for chance in chances(30, 401):
            choir = made_choir(chance)
            for thing in spoilt(made_chord(chance, choir)):
                self.check(choir, thing)

    def test_what_is_no_list(self):
        others = [0, 1, (), (("alto", 1),), {"alto": 1}, "alto", [["alto", 1]], [("alto", 1, 1)], [("alto",)]]
        for thing in ODD + others:
            self.check(TWO, thing)
        self.assertIs(is_chord(TWO, ()), False)
        self.assertIs(is_chord(TWO, []), True)

    def test_names_and_notes(self):
        for note in (-1, 0, 1, 2, 3, 10 ** 999, True, False, "0", None, [0], (0,)):
            self.check(TWO, [("alto", note)])
        for name in ("alto", "bass", "tenor", "", "Alto", None, 0, True, ["alto"], ("alto",), {}, b"alto"):
            self.check(TWO, [(name, 0)])
        self.assertIs(is_chord(TWO, [("alto", 2)]), True)
        self.assertIs(is_chord(TWO, [("alto", 3)]), False)
        self.assertIs(is_chord(TWO, [("alto", True)]), False)

    def test_one_name_twice(self):
        for thing in (
            [("alto", 1), ("alto", 1)], [("alto", 1), ("bass", 1), ("alto", 0)], [("bass", 1), ("alto", 1)],
            [("bass", 1), ("alto", 1), ("bass", 1)], [("alto", 1)] * 2000,
        ):
            self.check(TWO, thing)

    def test_asking_changes_nothing(self):
        thing = [("alto", 1), ("bass", 2)]
        is_chord(TWO, thing)
        has(TWO, (1, 2), thing)
        self.assertEqual(thing, [("alto", 1), ("bass", 2)])
        odd = [("alto", [1, [2]]), "bass"]
        is_chord(TWO, odd)
        self.assertEqual(odd, [("alto", [1, [2]]), "bass"])


class Standings(unittest.TestCase):
    def test_a_standing_has_a_chord(self):
        for chance in chances(60, 402):
            choir = made_choir(chance)
            for many in range(len(choir) + 1):
                wished = made_chord(chance, choir, many)
                for standing in all_standings(choir):
                    sung = dict(zip(choir.names(), standing))
                    expected = all(sung[name] == note for name, note in wished)
                    self.assertIs(has(choir, standing, wished), expected)
                self.assertEqual(
                    sum(has(choir, standing, wished) for standing in all_standings(choir)),
                    choir.notes() ** (len(choir) - many),
                )

    def test_by_hand(self):
        self.assertIs(has(TWO, (1, 2), []), True)
        self.assertIs(has(TWO, (1, 2), [("bass", 2)]), True)
        self.assertIs(has(TWO, (1, 2), [("bass", 1)]), False)
        self.assertIs(has(TWO, (1, 2), [("bass", 2), ("alto", 1)]), True)
        self.assertIs(has(TWO, (1, 2), [("bass", 2), ("alto", 2)]), False)

    def test_a_chord_changed_behind_the_call_is_asked_anew(self):
        wished = [("bass", 2)]
        self.assertIs(has(TWO, (1, 2), wished), True)
        wished[0] = ("bass", 0)
        self.assertIs(has(TWO, (1, 2), wished), False)
        wished.clear()
        self.assertIs(has(TWO, (1, 2), wished), True)
        self.assertIs(is_chord(TWO, wished), True)
        wished.append(None)
        self.assertIs(is_chord(TWO, wished), False)
