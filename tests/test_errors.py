"""Promise 4: the refusals, what they stand under, and the very things that they keep."""

import copy
import unittest

from halfpace import errors

FIELDS = {
    "Wrong": ["at"],
    "BadVoice": ["at"],
    "BadCue": ["at"],
    "Unlike": [],
    "Taken": ["name"],
    "TooGreat": ["most"],
    "TooMany": ["most"],
    "There": ["beat", "name"],
    "NoCue": ["beat", "name"],
    "Full": [],
    "NoRoot": ["beat"],
    "NoNumber": ["number"],
    "NoText": [],
    "Nothing": [],
    "Stopped": ["at"],
}

ODD = [
    0, 1, -1, 10 ** 999, True, False, None, "", "alto", "{} braces", "x" * 100000, b"a", [], [1, [2]], (), (None, []),
    {}, {"a": [1]}, {1, 2}, object(), int, len, ValueError("x"),
]


class Refusals(unittest.TestCase):
    def classes(self):
        return [getattr(errors, name) for name in FIELDS]

    def test_song_error_stands_right_under_value_error(self):
        self.assertEqual(errors.SongError.__bases__, (ValueError,))
        self.assertEqual(errors.SongError.__name__, "SongError")

    def test_each_stands_right_under_song_error(self):
        for name in FIELDS:
            refusal = getattr(errors, name)
            self.assertEqual(refusal.__bases__, (errors.SongError,), name)
            self.assertEqual(refusal.__name__, name)

    def test_there_are_fifteen_and_no_more(self):
        held = [thing for thing in vars(errors).values() if isinstance(thing, type)]
        self.assertEqual(len(FIELDS), 15)
        self.assertEqual({held_one.__name__ for held_one in held}, {*FIELDS, "SongError"})

    def test_none_stands_under_another_one(self):
        for one in self.classes():
            for other in self.classes():
                self.assertEqual(issubclass(one, other), one is other, (one, other))

    def test_each_keeps_the_very_things(self):
        for name, fields in FIELDS.items():
            for thing in ODD:
                for other in ODD:
                    things = [thing, other][:len(fields)]
                    refusal = getattr(errors, name)(*things)
                    self.assertEqual(sorted(vars(refusal)), sorted(fields), name)
                    for field, kept in zip(fields, things):
                        self.assertIs(getattr(refusal, field), kept, name)

    def test_a_kept_thing_is_no_copy_and_is_not_changed(self):
        for name, fields in FIELDS.items():
            things = [[1, 2], {"a": [3]}][:len(fields)]
            refusal = getattr(errors, name)(*things)
            self.assertEqual(things, [[1, 2], {"a": [3]}][:len(fields)])
            for field, kept in zip(fields, things):
                kept.clear()
                self.assertEqual(len(getattr(refusal, field)), 0)

    def test_two_fields_are_not_put_the_wrong_way_round(self):
        for refusal in (errors.There(7, "alto"), errors.NoCue(7, "alto")):
            self.assertEqual((refusal.beat, refusal.name), (7, "alto"))
        for refusal in (errors.There(7, None), errors.NoCue(7, None)):
            self.assertEqual((refusal.beat, refusal.name), (7, None))

    def test_each_is_made_of_as_many_things_as_it_has_fields(self):
        for name, fields in FIELDS.items():
            for many in range(4):
                if many != len(fields):
                    with self.assertRaises(TypeError, msg=name):
                        getattr(errors, name)(*range(many))

    def test_each_can_be_raised_caught_and_shown(self):
        for name, fields in FIELDS.items():
            for thing in ODD:
                refusal = getattr(errors, name)(*[thing] * len(fields))
                for base in (getattr(errors, name), errors.SongError, ValueError):
                    with self.assertRaises(base) as caught:
                        raise refusal
                    self.assertIs(caught.exception, refusal)
                self.assertIsInstance(str(refusal), str)
                self.assertIsInstance(repr(refusal), str)

    def test_a_copy_keeps_the_very_things_too(self):
        for name, fields in FIELDS.items():
            things = [[1], None][:len(fields)]
            copied = copy.copy(getattr(errors, name)(*things))
            self.assertIs(copied.__class__, getattr(errors, name))
            for field, kept in zip(fields, things):
                self.assertIs(getattr(copied, field), kept)
