"""Promise 90: which first standings agree with what was heard, and what bars them."""

import itertools
import unittest

from halfpace.choirs import Choir
from halfpace.errors import NoNumber
from halfpace.hearsay import agree_many, agreeing, bar, is_bar, left
from halfpace.roads import road
from halfpace.songs import Song
from tests.slow import ODD, all_standings, chances, made_choir, made_song, made_standing, rising_choir, spoilt

HELD = Choir(2, 3, [("a", ("a", "a"), ((0, 1, 2),) * 2), ("b", ("b", "b"), ((0, 1, 2),) * 2)])


def with_first(song, first):
    return Song(song.choir(), first, cues=song.cues(), breaths=song.breaths())


class Asked:
    """What [90] tells, by going through all first standings."""

    def __init__(self, song, heard):
        self.choir = song.choir()
        self.heard = heard
        self.names = self.choir.names()
        self.lets = []
        songs = [(first, with_first(song, first)) for first in all_standings(self.choir)]
        sung = {}
        for beat, name, note in heard:
            if (beat, name) not in sung:
                sung[beat, name] = [(first, other.note(beat, name)) for first, other in songs]
            self.lets.append({first for first, told in sung[beat, name] if told == note})

    def agree(self, places=None):
        told = set(all_standings(self.choir))
        for place in range(len(self.heard)) if places is None else places:
            told &= self.lets[place]
        return sorted(told)

    def left(self):
        if not all(self.lets):
            return [[] for _ in self.names]
        told = []
        for voice in range(len(self.names)):
            row = []
            for note in range(self.choir.notes()):
                # Where it hangs on other voices whether one is heard, some first standing lets it whatever note.
                if all(any(first[voice] == note for first in lets) for lets in self.lets):
                    row.append(note)
            told.append(row)
        return told

    def is_bar(self, thing):
        if type(thing) is not list or not all(type(at) is int and 0 <= at < len(self.heard) for at in thing):
            return False
        if any(at >= behind for at, behind in zip(thing, thing[1:])) or self.agree(thing):
            return False
        return all(self.agree(thing[:place] + thing[place + 1:]) for place in range(len(thing)))


def made_heard(chance, song, many, lies):
    """What a song of some first standing sings, but for some lies."""
    told = with_first(song, made_standing(chance, song.choir()))
    beats = [0, 1, 2, 3, 7, 50, 10 ** 18, 10 ** 40] + [beat for beat, _ in song.roots()]
    heard = []
    for _ in range(many):
        beat = chance.choice(beats) if chance.random() < 0.7 else chance.randint(0, 80)
        name = chance.choice(song.choir().names())
        note = told.note(beat, name)
        if chance.random() < lies:
            note = chance.randrange(song.choir().notes())
        heard.append((beat, name, note))
    return heard


def turning(chance):
    """A choir in which no note is lost, so that each heard one leaves one note to a voice."""
    notes = chance.randint(2, 4)
    pace = chance.randint(2, 4)
    names = ["a", "b", "c"][:chance.randint(1, 3 if notes < 4 else 2)]
    voices = []
    for name in names:
        tables = tuple(tuple(chance.sample(range(notes), notes)) for _ in range(pace))
        voices.append((name, tuple(chance.choice(names) for _ in range(pace)), tables))
    return Choir(pace, notes, voices)


def cases(many, seed):
    for place, chance in enumerate(chances(many, seed)):
        if place % 3 == 0:
            choir = turning(chance)
        else:
            made = made_choir if place % 3 == 1 else rising_choir
            choir = made(chance, None, chance.randint(2, 4), chance.randint(1, 3))
        cues = chance.choice([0, 0, 1, 4])
        song = made_song(chance, choir, chance.choice([5, 40]), cues, chance.choice([0, 0, 2]))
        heard = made_heard(chance, song, chance.choice([0, 1, 2, 3, 5, 12]), chance.choice([0, 0, 0.1, 0.5]))
        yield chance, song, heard


class Left(unittest.TestCase):
    def test_against_all_first_standings(self):
        kinds = {"all": 0, "some": 0, "none of one": 0, "none of any": 0}
        for _, song, heard in cases(600, 900):
            asked = Asked(song, heard)
            told = left(song, heard)
            self.assertIs(type(told), list)
            self.assertTrue(all(type(row) is list for row in told))
            self.assertEqual(told, asked.left())
            self.assertEqual(len({id(row) for row in told}), len(told))
            agree = asked.agree()
            self.assertEqual(agree, list(itertools.product(*told)))
            self.assertEqual(agree_many(song, heard), len(agree))
            if not all(asked.lets):
                kinds["none of any"] += 1
            elif not agree:
                kinds["none of one"] += 1
            else:
                kinds["all" if len(agree) == len(all_standings(song.choir())) else "some"] += 1
        self.assertGreater(min(kinds.values()), 20)

    def test_agreeing_by_each_number(self):
        for chance, song, heard in cases(120, 901):
            agree = Asked(song, heard).agree()
            for number, standing in enumerate(agree):
                told = agreeing(song, heard, number)
                self.assertIs(type(told), tuple)
                self.assertEqual(told, standing)
            for number in (len(agree), len(agree) + 1, 10 ** 18, 10 ** 999):
                with self.assertRaises(NoNumber) as refusal:
                    agreeing(song, heard, number)
                self.assertEqual(refusal.exception.number, number)

    def test_none_heard(self):
        for chance in chances(20, 902):
            song = made_song(chance)
            choir = song.choir()
            self.assertEqual(left(song, []), [list(range(choir.notes()))] * len(choir))
            self.assertEqual(agree_many(song, []), choir.notes() ** len(choir))
            self.assertEqual(agreeing(song, [], 0), (0,) * len(choir))
            self.assertIsNone(bar(song, []))
            self.assertIs(is_bar(song, [], []), False)
            self.assertRaises(NoNumber, agreeing, song, [], choir.notes() ** len(choir))

    def test_sixty_heard(self):
        for chance in chances(20, 903):
            song = made_song(chance, made_choir(chance, None, 3, 2), 40, 2, 2)
            for lies in (0, 0.02):
                heard = made_heard(chance, song, 60, lies)
                asked = Asked(song, heard)
                self.assertEqual(left(song, heard), asked.left())
                self.assertEqual(agree_many(song, heard), len(asked.agree()))
                told = bar(song, heard)
                self.assertEqual(told is None, bool(asked.agree()))
                if told is not None:
                    self.assertIs(asked.is_bar(told), True)

    def test_by_hand(self):
        song = Song(HELD, (0, 0), cues=[(5, "a", 2)])
        self.assertEqual(left(song, [(3, "a", 1)]), [[1], [0, 1, 2]])
        self.assertEqual(left(song, [(3, "a", 1), (9, "a", 2)]), [[1], [0, 1, 2]])
        self.assertEqual(left(song, [(3, "a", 1), (4, "a", 2)]), [[], [0, 1, 2]])
        self.assertEqual(left(song, [(3, "a", 1), (9, "a", 1)]), [[], []])
        self.assertEqual(bar(song, [(3, "a", 1), (9, "a", 1)]), [1])
        self.assertEqual(bar(song, [(3, "a", 1), (8, "b", 0), (4, "a", 2)]), [0, 2])
        self.assertEqual(agreeing(song, [(3, "b", 1)], 2), (2, 1))
        # A voice with a cue at beat 0 sings it whatever the first standing is.
        cued = Song(HELD, (0, 0), cues=[(0, "a", 2)])
        self.assertEqual(left(cued, [(0, "a", 2), (10 ** 18, "a", 2)]), [[0, 1, 2], [0, 1, 2]])
        self.assertEqual(left(cued, [(0, "a", 0)]), [[], []])

    def test_the_songs_own_first_standing_is_left_out_of_it(self):
        for chance, song, heard in cases(40, 904):
            other = with_first(song, made_standing(chance, song.choir()))
            self.assertEqual(left(song, heard), left(other, heard))
            self.assertEqual(bar(song, heard), bar(other, heard))

    def test_it_hangs_on_one_note_alone(self):
        # [7]: on one note of the first standing, or on one cue.
        for _, song, heard in cases(60, 905):
            asked = Asked(song, heard)
            for (beat, name, _), lets in zip(heard, asked.lets):
                source = road(song, beat, name)[-1]
                if source in [cue[:2] for cue in song.cues()]:
                    self.assertIn(len(lets), (0, len(all_standings(song.choir()))))
                else:
                    voice = song.choir().names().index(source[1])
                    notes = {first[voice] for first in lets}
                    expected = {first for first in all_standings(song.choir()) if first[voice] in notes}
                    self.assertEqual(lets, expected)


class Bars(unittest.TestCase):
    def test_told_where_none_agrees(self):
        sizes = {}
        for _, song, heard in cases(700, 906):
            asked = Asked(song, heard)
            told = bar(song, heard)
            if asked.agree():
                self.assertIsNone(told)
                continue
            self.assertIs(type(told), list)
            self.assertIs(asked.is_bar(told), True)
            self.assertIs(is_bar(song, heard, told), True)
            self.assertLessEqual(len(told), song.choir().notes())
            if not all(asked.lets):
                self.assertEqual(len(told), 1)
                self.assertFalse(asked.lets[told[0]])
            sizes[len(told)] = sizes.get(len(told), 0) + 1
        self.assertGreater(min(sizes[1], sizes[2]), 20)

    def test_each_rest_bars_one_note(self):
        # By each rest a voice sings 1 for one note of its own alone; so the first standing is barred note by note.
        tables = tuple(tuple(1 if other == note else 0 for other in range(4)) for note in range(4))
        choir = Choir(4, 4, [("a", ("b",) * 4, tables), ("b", ("b",) * 4, ((0, 1, 2, 3),) * 4)])
        song = Song(choir, (0, 0))
        heard = [(4, "a", 0), (9, "b", 0), (5, "a", 0), (6, "a", 0), (7, "a", 0), (8, "a", 0)]
        asked = Asked(song, heard[:1] + heard[2:])
        self.assertEqual(asked.agree(), [])
        told = bar(song, heard[:1] + heard[2:])
        self.assertEqual(len(told), 4)
        self.assertIs(asked.is_bar(told), True)
        for chosen in itertools.combinations(range(6), 4):
            self.assertIs(is_bar(song, heard, list(chosen)), Asked(song, heard).is_bar(list(chosen)))

    def test_all_lists_of_a_few_heard(self):
        kinds = {True: 0, False: 0}
        for _, song, heard in cases(250, 907):
            heard = heard[:5]
            asked = Asked(song, heard)
            for many in range(len(heard) + 1):
                for chosen in itertools.combinations(range(len(heard)), many):
                    expected = asked.is_bar(list(chosen))
                    kinds[expected] += 1
                    self.assertIs(is_bar(song, heard, list(chosen)), expected, (heard, chosen))
        self.assertGreater(min(kinds.values()), 60)

    def test_spoilt(self):
        for chance, song, heard in cases(200, 908):
            told = bar(song, heard)
            asked = Asked(song, heard)
            right = told or list(range(min(len(heard), 2)))
            things = [right + right, right[::-1], right[:-1], right[1:], [], tuple(right), right + [len(heard)]]
            things += [right + [-1], [-1] + right, right + right[-1:], [at + 1 for at in right], [at - 1 for at in right]]
            things += [[True if at == 1 else False if at == 0 else at for at in right], list(range(len(heard)))]
            things += [sorted(chance.sample(range(len(heard)), min(len(heard), many))) for many in (1, 2, 3)]
            things += [right + [10 ** 900], [str(at) for at in right], [[at] for at in right], [0.5], [0.0]]
            for thing in things + spoilt(right):
                expected = asked.is_bar(thing) if type(thing) is list else False
                self.assertIs(is_bar(song, heard, thing), expected, repr(thing)[:100])

    def test_other_things(self):
        song = Song(HELD, (0, 0), cues=[(5, "a", 2)])
        heard = [(3, "a", 1), (9, "a", 1), (3, "a", 0)]
        for thing in ODD + [0, 1, "1", [[1]], [1.5], {1: 1}, [10 ** 999], [0] * 4000, list(range(4000))]:
            self.assertIs(is_bar(song, heard, thing), False)
        self.assertIs(is_bar(song, heard, [1]), True)
        self.assertIs(is_bar(song, heard, [0, 2]), True)
        self.assertIs(is_bar(song, heard, [False, 2]), False)
        self.assertIs(is_bar(song, heard, [True]), False)
        self.assertIs(is_bar(song, heard, [2, 0]), False)
        self.assertIs(is_bar(song, heard, [0, 1, 2]), False)


class WhatHangsOnIt(unittest.TestCase):
    def test_told_lists_and_heard_ones_put_otherwise(self):
        song = Song(HELD, (0, 0))
        heard = [(3, "a", 1)]
        told = left(song, heard)
        told[0].append(9)
        told.pop()
        self.assertEqual(left(song, heard), [[1], [0, 1, 2]])
        self.assertEqual(heard, [(3, "a", 1)])
        heard.append((4, "a", 2))
        self.assertEqual(left(song, heard), [[], [0, 1, 2]])
        told = bar(song, heard)
        told.append(5)
        self.assertEqual(bar(song, heard), [0, 1])
        heard[1] = (4, "b", 2)
        self.assertEqual((left(song, heard), bar(song, heard)), ([[1], [2]], None))
        self.assertEqual(agreeing(song, heard, 0), (1, 2))


if __name__ == "__main__":
    unittest.main()
