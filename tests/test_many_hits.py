"""Promises 41 and 42 where a choir has many standings: many questions one behind another, near and far."""

import itertools
import unittest

from halfpace.choirs import Choir
from halfpace.hits import all_hits, first_hit, hit, hits, is_turn, turn_of
from halfpace.songs import Song
from halfpace.waits import wait_for
from tests.slow import (
    Sung, all_standings, chances, has_it, made_chord, made_cues, made_standing, many_between, rising_choir,
)

NAMES = "abcdef"
TABLES = ((0, 1), (1, 0), (1, 1), (0, 1))
LAST = 400
FAR = [10 ** 18, 10 ** 40 - 1, 10 ** 40, 10 ** 40 + 1, 10 ** 60, 4 ** 30 - 1, 4 ** 30]


def great_choir():
    """64 standings: by each rest a voice has another one for its elder."""
    voices = [(name, tuple(NAMES[(at + rest) % 6] for rest in range(4)), TABLES) for at, name in enumerate(NAMES)]
    return Choir(4, 2, voices)


FIRST = (0, 1, 0, 1, 1, 0)


def great_chords():
    """More chords than a choir could keep anything of, of one name, of two, and of all."""
    singles = [[(name, note)] for name in NAMES for note in (0, 1)]
    pairs = [one + other for one, other in itertools.combinations(singles, 2) if one[0][0] != other[0][0]]
    return singles + pairs[:40] + [list(zip(NAMES, FIRST)), []]


class Great(unittest.TestCase):
    def test_the_reported_song(self):
        choir = great_choir()
        song = Song(choir, FIRST)
        self.assertEqual(len(all_standings(choir)), 64)
        chord = [("a", 1)]
        many = hits(song, chord, 10 ** 40)
        self.assertEqual(many, many_between(choir, FIRST, chord, 0, 10 ** 40))
        for _ in range(100):
            self.assertEqual(hits(song, chord, 10 ** 40), many)
            self.assertIsNone(all_hits(song, chord))
        self.assertIs(is_turn(song, chord, turn_of(song, chord)), True)

    def test_near_beats_against_a_walk(self):
        song = Song(great_choir(), FIRST)
        walk = Sung(song, LAST).standings
        for chord in great_chords():
            found = [beat for beat, standing in enumerate(walk) if has_it(song.choir(), standing, chord)]
            for upto in (0, 1, 3, 4, 15, 16, 17, 63, 64, 255, 256, LAST):
                self.assertEqual(hits(song, chord, upto), len([beat for beat in found if beat <= upto]))
                behind = [beat for beat in found if beat >= upto]
                if behind:
                    self.assertEqual(first_hit(song, chord, upto), behind[0])
                    self.assertEqual(wait_for(song.choir(), FIRST, upto, chord), behind[0])
            for number, beat in enumerate(found):
                if number < 30 or number % 17 == 0:
                    self.assertEqual(hit(song, chord, number), beat)

    def test_all_notes_of_one_voice_are_sung_once_at_each_beat(self):
        song = Song(great_choir(), FIRST)
        for beat in [0, 1, 77, LAST, *FAR]:
            for name in NAMES:
                self.assertEqual(sum(hits(song, [(name, note)], beat) for note in (0, 1)), beat + 1)
            pairs = [[("a", one), ("d", other)] for one in (0, 1) for other in (0, 1)]
            self.assertEqual(sum(hits(song, chord, beat) for chord in pairs), beat + 1)
            self.assertEqual(hits(song, [], beat), beat + 1)

    def test_far_hits_follow_one_another(self):
        song = Song(great_choir(), FIRST, cues=[(5, "b", 0), (10 ** 17, "a", 1)], breaths=[7, 10 ** 18])
        for chord in great_chords()[::5]:
            for far in FAR:
                first = first_hit(song, chord, far)
                if first is None:
                    self.assertIsNotNone(all_hits(song, chord))
                    continue
                self.assertIs(has_it(song.choir(), song.standing(first), chord), True)
                ahead = hits(song, chord, far - 1)
                self.assertEqual(hits(song, chord, first), ahead + 1)
                self.assertEqual(hits(song, chord, first - 1), ahead)
                self.assertEqual(hit(song, chord, ahead), first if first <= 10 ** 40 else None)

    def test_songs_of_one_choir_and_of_choirs_made_anew(self):
        shared = great_choir()
        for chance in chances(12, 411):
            first = made_standing(chance, shared)
            cues = made_cues(chance, shared, 3, 200) + made_cues(chance, shared, 2, 10 ** 18)
            breaths = chance.sample(range(200), 2)
            songs = [Song(choir, first, cues=cues, breaths=breaths) for choir in (shared, great_choir())]
            walk = Sung(songs[0], LAST).standings
            for _ in range(20):
                chord = chance.choice(great_chords())
                beat = chance.randint(0, LAST)
                many = len([standing for standing in walk[:beat + 1] if has_it(shared, standing, chord)])
                far = chance.choice(FAR)
                expected = (many, hits(songs[1], chord, far), hit(songs[1], chord, 10 ** 17), all_hits(songs[1], chord))
                song = songs[0]
                told = (hits(song, chord, beat), hits(song, chord, far), hit(song, chord, 10 ** 17), all_hits(song, chord))
                self.assertEqual(told, expected)

    def test_a_chord_put_otherwise_in_place_is_asked_anew(self):
        song = Song(great_choir(), FIRST)
        chord = [("a", 1)]
        many = {note: hits(song, [("a", note)], 10 ** 40) for note in (0, 1)}
        turn = turn_of(song, chord)
        for note in (1, 0, 1, 0):
            chord[0] = ("a", note)
            self.assertEqual(hits(song, chord, 10 ** 40), many[note])
            self.assertEqual(hit(song, chord, 0), first_hit(song, chord, 0))
        chord.append(("b", 1))
        both = hits(song, chord, 10 ** 40)
        self.assertEqual(hits(song, chord[::-1], 10 ** 40), both)
        self.assertEqual(both + hits(song, [("a", 0), ("b", 0)], 10 ** 40), many[0])
        chord.clear()
        self.assertEqual(hits(song, chord, 10 ** 40), 10 ** 40 + 1)
        # What was told to one asker is changed by no other one.
        kept = repr(turn)
        for part in turn_of(song, [("a", 1)]):
            part.append(7)
        self.assertEqual(repr(turn), kept)
        self.assertEqual(repr(turn_of(song, [("a", 1)])), kept)


class Rising(unittest.TestCase):
    def test_hits_that_end_in_great_choirs(self):
        ends = 0
        for chance in chances(25, 412):
            choir = rising_choir(chance, None, chance.choice([2, 4]), 3)
            song = Song(choir, made_standing(chance, choir), cues=made_cues(chance, choir, 2, 50))
            walk = Sung(song, LAST).standings
            for _ in range(4):
                chord = made_chord(chance, choir, chance.randint(1, 3))
                found = [beat for beat, standing in enumerate(walk) if has_it(choir, standing, chord)]
                many = all_hits(song, chord)
                if many is None:
                    self.assertIsNotNone(first_hit(song, chord, 10 ** 60))
                    continue
                ends += 1
                self.assertEqual(hits(song, chord, 10 ** 60), many)
                self.assertGreaterEqual(many, len(found))
                self.assertIsNone(hit(song, chord, many))
                self.assertIsNone(first_hit(song, chord, 10 ** 60))
                if many:
                    last = hit(song, chord, many - 1)
                    self.assertIsNone(first_hit(song, chord, last + 1))
        self.assertGreater(ends, 20)


if __name__ == "__main__":
    unittest.main()
