"""Promise 10: of whatever is handed in, whether it is a whole number, a beat, a name, a pace."""

import unittest

from halfpace.kinds import are_rests, is_beat, is_below, is_name, is_pace, is_same, is_whole
from tests.slow import ODD, spoilt

NO_NUMBERS = [
    True, False, None, "", "a", "1", "07", b"", b"1", [], [1], [[]], (), (0,), (2, 3), {}, {1: 2}, {"a": 1},
    {1, 2}, frozenset([2]), object(), int, len, range(3), ValueError("1"),
]

WHOLE = [0, 1, -1, 2, 3, 4, 5, 9, 10, 10 ** 18 - 1, 10 ** 18, 10 ** 18 + 1, -10 ** 18, 10 ** 999, -10 ** 999]


class Kinds(unittest.TestCase):
    def told(self, ask, thing, expected):
        # assertEqual alone would take 1 for True.
        with self.subTest(thing=repr(thing)[:40]):
            self.assertIs(ask(thing), expected)

    def test_whole_numbers(self):
        for thing in WHOLE:
            self.told(is_whole, thing, True)

    def test_no_number_is_whole_a_beat_or_a_pace(self):
        for ask in (is_whole, is_beat, is_pace):
            for thing in NO_NUMBERS:
                self.told(ask, thing, False)

    def test_beats(self):
        for thing in (0, 1, 2, 4, 5, 64, 2 ** 32, 10 ** 17, 10 ** 18 - 1, 10 ** 18):
            self.told(is_beat, thing, True)
        for thing in (-1, -2, 10 ** 18 + 1, 10 ** 19, -10 ** 18, 10 ** 999):
            self.told(is_beat, thing, False)

    def test_paces(self):
        for thing in WHOLE:
            self.told(is_pace, thing, thing in (2, 3, 4))

    def test_numbers_below_a_limit(self):
        for limit in (2, 3, 4, 5, 10):
            for thing in WHOLE:
                self.told(lambda thing: is_below(thing, limit), thing, 0 <= thing < limit)
            for thing in NO_NUMBERS:
                self.told(lambda thing: is_below(thing, limit), thing, False)


class Lists(unittest.TestCase):
    def test_lists_of_rests(self):
        for pace in (2, 3, 4):
            for thing in ([], [0], [pace - 1], [0, 1, pace - 1, 0], [1] * 4000):
                self.assertIs(are_rests(thing, pace), True)
            for thing in ([pace], [0, pace], [-1], [0, True], [False], [None], ["0"], [[0]], (0,), (), "01", {0: 1}):
                self.assertIs(are_rests(thing, pace), False)
            for odd in ODD + [0, 1]:
                self.assertIs(are_rests(odd, pace), odd == [])

    def test_the_same_part_by_part(self):
        for told in ([], [(0, None)], [[((0, 1), 7)], [((1, 1), None)]], (1, [2, (3,)]), [0, 1, 10 ** 900]):
            self.assertIs(is_same(told, told), True)
            for thing in spoilt(told) + ODD:
                self.assertIs(is_same(thing, told), repr(thing) == repr(told))


class Names(unittest.TestCase):
    def told(self, thing, expected):
        with self.subTest(thing=repr(thing)[:40]):
            self.assertIs(is_name(thing), expected)

    def test_each_letter_is_a_name(self):
        for sign in "abcdefghijklmnopqrstuvwxyz":
            self.told(sign, True)

    def test_one_to_eight_letters(self):
        self.told("", False)
        for many in range(1, 9):
            self.told("azbycxdw"[:many], True)
        for many in (9, 10, 100, 100000):
            self.told("a" * many, False)

    def test_a_sign_that_is_no_small_letter_in_any_place(self):
        # The neighbours of a and z, capitals, figures, blanks, and what only looks like letters.
        for sign in "`{@[AZ09 _-.:\n\t\x00\u00df\u00e9\u00aa\u0430\uff41\u0131\ud800":
            self.told(sign, False)
            for many in range(2, 9):
                for place in range(many):
                    self.told("a" * place + sign + "z" * (many - place - 1), False)

    def test_no_text_is_no_name(self):
        for thing in (None, True, False, 0, 1, 97, b"a", b"alto", [], ["a"], ("a",), {}, {"a": 1}, {"a"}, object()):
            self.told(thing, False)


class NothingChanges(unittest.TestCase):
    def test_asking_changes_nothing(self):
        thing = [1, ["alto"], {"a": [2]}]
        for ask in (is_whole, is_beat, is_name, is_pace):
            ask(thing)
        self.assertEqual(thing, [1, ["alto"], {"a": [2]}])
