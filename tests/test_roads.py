"""Promises 32 and 33, and what 7 says of sources: elders, roads, their tables, ties."""

import unittest

from halfpace.choirs import Choir
from halfpace.roads import elder_of, road, road_table, tie
from halfpace.songs import Song
from tests.slow import Sung, chances, made_choir, made_song, made_standing

LAST = 130
FAR = [10 ** 18 - 1, 10 ** 18, 10 ** 18 + 1, 2 ** 62, 10 ** 40, 10 ** 80 + 3]


def with_source(song, source, note):
    """The song in which the source of a road has another note."""
    first = dict(zip(song.choir().names(), song.first()))
    cues = {(beat, name): sung for beat, name, sung in song.cues()}
    if source in cues:
        cues[source] = note
    else:
        first[source[1]] = note
    return Song(
        song.choir(), tuple(first[name] for name in song.choir().names()),
        cues=[(beat, name, sung) for (beat, name), sung in cues.items()], breaths=song.breaths(),
    )


class Elders(unittest.TestCase):
    def test_against_a_walk(self):
        for chance in chances(60, 320):
            song = made_song(chance, last=chance.choice([5, 40]))
            walk = Sung(song, LAST)
            for beat in range(LAST + 1):
                for name in song.choir().names():
                    told = elder_of(song, beat, name)
                    self.assertEqual(told, walk.elders[beat, name])
                    self.assertTrue(told is None or type(told) is tuple)

    def test_none_at_beat_0_and_where_a_cue_is(self):
        choir = Choir(2, 2, [("a", ("b", "a"), ((0, 1), (1, 0))), ("b", ("a", "b"), ((0, 1), (1, 1)))])
        song = Song(choir, (0, 1), cues=[(0, "a", 1), (6, "a", 0)], breaths=[3])
        self.assertIsNone(elder_of(song, 0, "a"))
        self.assertIsNone(elder_of(song, 0, "b"))
        self.assertIsNone(elder_of(song, 6, "a"))
        # At beat 6, a root beat by the cue of a, b is sung as counted from the root beat 3.
        self.assertEqual(elder_of(song, 6, "b"), (3 + 1, "b"))
        self.assertEqual(elder_of(song, 3, "a"), (1, "a"))
        self.assertEqual(elder_of(song, 4, "a"), (3, "a"))
        self.assertEqual(elder_of(song, 5, "a"), (4, "b"))
        self.assertEqual(elder_of(song, 7, "b"), (6, "b"))
        self.assertEqual(elder_of(song, 8, "b"), (7, "a"))

    def test_at_far_beats_by_the_figures(self):
        for chance in chances(30, 321):
            song = made_song(chance, last=30)
            choir = song.choir()
            last = song.roots()[-1][0]
            for beat in FAR:
                for name in choir.names():
                    wait, rest = divmod(beat - last, choir.pace())
                    self.assertEqual(elder_of(song, beat, name), (last + wait, choir.elder(name, rest)))


class Roads(unittest.TestCase):
    def test_against_a_walk(self):
        for chance in chances(40, 322):
            song = made_song(chance, last=chance.choice([5, 40]))
            walk = Sung(song, LAST)
            for beat in range(LAST + 1):
                for name in song.choir().names():
                    told = road(song, beat, name)
                    self.assertIs(type(told), list)
                    self.assertTrue(all(type(step) is tuple for step in told))
                    self.assertEqual(told, walk.road(beat, name))

    def test_at_far_beats_it_goes_by_elders_to_its_source(self):
        for chance in chances(30, 323):
            song = made_song(chance, last=30)
            cued = [cue[:2] for cue in song.cues()]
            for beat in FAR:
                for name in song.choir().names():
                    told = road(song, beat, name)
                    self.assertEqual(told[0], (beat, name))
                    for step, after in zip(told, told[1:]):
                        self.assertEqual(elder_of(song, *step), after)
                    self.assertIsNone(elder_of(song, *told[-1]))
                    self.assertTrue(told[-1][0] == 0 or told[-1] in cued)

    def test_from_cued_beats_and_root_beats(self):
        for chance in chances(30, 324):
            song = made_song(chance, last=30, cues=6, breaths=4)
            for beat, name, _ in song.cues():
                self.assertEqual(road(song, beat, name), [(beat, name)])
            for name in song.choir().names():
                self.assertEqual(road(song, 0, name), [(0, name)])
            walk = Sung(song, 32)
            for beat, _ in song.roots():
                for name in song.choir().names():
                    self.assertEqual(road(song, beat, name), walk.road(beat, name))
                    self.assertEqual(road(song, beat + 1, name), walk.road(beat + 1, name))

    def test_many_far_cues(self):
        for chance in chances(5, 325):
            choir = made_choir(chance)
            beats = chance.sample(range(10 ** 18), 40)
            cues = [(beat, chance.choice(choir.names()), 1) for beat in beats]
            song = Song(choir, made_standing(chance, choir), cues=cues, breaths=chance.sample(range(10 ** 18), 40))
            for name in choir.names():
                told = road(song, 10 ** 18 + 5, name)
                self.assertTrue(all(step[0] >= after[0] for step, after in zip(told, told[1:])))
                self.assertTrue(told[-1][0] == 0 or told[-1] in [cue[:2] for cue in cues])


class Tables(unittest.TestCase):
    def check(self, song, beat, name):
        told = road_table(song, beat, name)
        self.assertIs(type(told), tuple)
        source = road(song, beat, name)[-1]
        notes = [with_source(song, source, note).note(beat, name) for note in range(song.choir().notes())]
        self.assertEqual(told, tuple(notes))
        self.assertEqual(told[song.note(*source)], song.note(beat, name))

    def test_what_is_sung_when_the_source_is_another_note(self):
        for chance in chances(30, 326):
            song = made_song(chance, last=chance.choice([5, 30]))
            for beat in [*range(40), *FAR]:
                for name in song.choir().names():
                    self.check(song, beat, name)

    def test_a_source_itself_sings_each_note_as_it_is(self):
        for chance in chances(20, 327):
            song = made_song(chance, cues=5)
            plain = tuple(range(song.choir().notes()))
            for beat, name, _ in song.cues():
                self.assertEqual(road_table(song, beat, name), plain)
            for name in song.choir().names():
                self.assertEqual(road_table(song, 0, name), plain)

    def test_tables_follow_in_their_order(self):
        # By the rest 1 a note goes up, but for the last one; by the rest 0 it is mirrored.
        choir = Choir(2, 3, [("a", ("a", "a"), ((2, 1, 0), (1, 2, 2)))])
        song = Song(choir, (0,))
        self.assertEqual(road(song, 2, "a"), [(2, "a"), (1, "a"), (0, "a")])
        self.assertEqual(road_table(song, 1, "a"), (1, 2, 2))
        self.assertEqual(road_table(song, 2, "a"), (1, 0, 0))
        self.assertEqual(road_table(song, 3, "a"), (2, 2, 2))
        self.assertEqual(road_table(song, 5, "a"), (2, 1, 1))


class Ties(unittest.TestCase):
    def check(self, song, one, other):
        told = tie(song, one, other)
        ones = road(song, *one)
        others = road(song, *other)
        self.assertEqual(told, next((step for step in ones if step in others), None))
        # From the tie on both roads are one, so it is the same tie whichever is the one.
        self.assertEqual(told, tie(song, other, one))
        if told is not None:
            self.assertIs(type(told), tuple)
            self.assertEqual(ones[ones.index(told):], others[others.index(told):])
        else:
            self.assertNotEqual(ones[-1], others[-1])

    def test_near(self):
        for chance in chances(30, 330):
            song = made_song(chance, last=chance.choice([5, 30]))
            places = [(beat, name) for beat in range(60) for name in song.choir().names()]
            for _ in range(150):
                self.check(song, chance.choice(places), chance.choice(places))

    def test_far(self):
        for chance in chances(20, 331):
            song = made_song(chance, last=30)
            places = [(beat, name) for beat in [0, 1, 30, *FAR] for name in song.choir().names()]
            for _ in range(60):
                self.check(song, chance.choice(places), chance.choice(places))

    def test_of_one_and_the_same_place(self):
        for chance in chances(20, 332):
            song = made_song(chance)
            for beat in [0, 1, 17, *FAR]:
                for name in song.choir().names():
                    self.assertEqual(tie(song, (beat, name), (beat, name)), (beat, name))

    def test_one_on_the_road_of_the_other(self):
        for chance in chances(20, 333):
            song = made_song(chance)
            name = chance.choice(song.choir().names())
            for step in road(song, 10 ** 18, name):
                self.assertEqual(tie(song, (10 ** 18, name), step), step)
                self.assertEqual(tie(song, step, (10 ** 18, name)), step)

    def test_none_where_there_is_none(self):
        apart = Choir(2, 2, [("a", ("a", "a"), ((0, 1), (1, 0))), ("b", ("b", "b"), ((0, 1), (1, 0)))])
        song = Song(apart, (0, 0), cues=[(8, "a", 1)])
        for beat in [0, 3, 8, 9, *FAR]:
            self.assertIsNone(tie(song, (beat, "a"), (beat, "b")))
            self.assertIsNone(tie(song, (4, "b"), (beat, "a")))
        self.assertIsNone(tie(song, (7, "a"), (9, "a")))
        self.assertEqual(tie(song, (9, "a"), (10 ** 18, "a")), (9, "a"))
        self.assertEqual(tie(song, (5, "b"), (4, "b")), (2, "b"))


class TheAskersOwn(unittest.TestCase):
    def test_told_lists_are_changed_and_told_again(self):
        for chance in chances(20, 334):
            song = made_song(chance)
            kept = (song.cues(), song.breaths(), song.roots(), song.first())
            name = song.choir().names()[0]
            told = road(song, 50, name)
            before = list(told)
            told.clear()
            self.assertEqual(road(song, 50, name), before)
            self.assertIsNot(road(song, 50, name), road(song, 50, name))
            road_table(song, 50, name)
            tie(song, (50, name), (49, name))
            self.assertEqual((song.cues(), song.breaths(), song.roots(), song.first()), kept)
