"""Promises 30, 31, 34 and what 7 and 8 say of songs: what is sung at a beat, and songs put otherwise."""

import random
import unittest

from halfpace.choirs import Choir, beside
from halfpace.errors import BadCue, Full, NoCue, NoRoot, SongError, There, Wrong
from halfpace.roads import road
from halfpace.songs import Song
from tests.slow import (
    ODD, Sung, chances, made_choir, made_cues, made_song, made_standing, made_voices, slow_behind, spoilt,
)

TWO = Choir(2, 2, [("alto", ("alto", "bass"), ((0, 1), (1, 0))), ("bass", ("bass", "bass"), ((0, 1), (1, 1)))])
FAR = [10 ** 18 - 1, 10 ** 18, 10 ** 18 + 1, 2 ** 60, 3 ** 50 + 1, 4 ** 40 - 1, 10 ** 40, 10 ** 80 + 3]


def beat(thing):
    return type(thing) is int and 0 <= thing <= 10 ** 18


def due(choir, first, cues, breaths):
    """The refusal that [30] asks for, as (class, place), None where there is none."""
    if type(choir) is not Choir:
        return (Wrong, 0)

    def note(thing):
        return type(thing) is int and 0 <= thing < choir.notes()

    if type(first) is not tuple or len(first) != len(choir) or not all(map(note, first)):
        return (Wrong, 1)
    if type(cues) not in (list, tuple) or len(cues) > 40:
        return (Wrong, 2)
    if type(breaths) not in (list, tuple) or len(breaths) > 40 or not all(map(beat, breaths)):
        return (Wrong, 3)
    if len(set(breaths)) < len(breaths):
        return (Wrong, 3)
    for at, cue in enumerate(cues):
        if type(cue) is not tuple or len(cue) != 3 or not beat(cue[0]) or not note(cue[2]):
            return (BadCue, at)
        if type(cue[1]) is not str or cue[1] not in choir.names():
            return (BadCue, at)
        if cue[:2] in [ahead[:2] for ahead in cues[:at]]:
            return (BadCue, at)
    return None


class Told(unittest.TestCase):
    def test_what_was_handed_in_is_told_sorted(self):
        for chance in chances(100, 300):
            choir = made_choir(chance)
            first = made_standing(chance, choir)
            many = chance.choice([0, 1, 5, 40])
            cues = made_cues(chance, choir, many, chance.choice([60, 10 ** 18]))
            breaths = chance.sample(range(200), chance.choice([0, 1, 5, 40]))
            kind = chance.choice([list, tuple])
            song = Song(choir, first, cues=kind(cues), breaths=kind(breaths))
            self.assertEqual(song.choir(), choir)
            self.assertEqual(song.first(), first)
            self.assertEqual(song.cues(), sorted(cues))
            self.assertEqual(song.breaths(), sorted(breaths))
            self.assertEqual(len(song.cues()), many)

    def test_cues_and_breaths_may_be_left_out(self):
        song = Song(TWO, (0, 1))
        self.assertEqual((song.cues(), song.breaths()), ([], []))
        self.assertEqual(song.roots(), [(0, (0, 1))])
        self.assertEqual(Song(TWO, (0, 1), cues=[], breaths=()), song)

    def test_they_are_handed_in_by_name(self):
        with self.assertRaises(TypeError):
            Song(TWO, (0, 1), [(3, "alto", 1)])

    def test_the_first_standing_is_told_as_handed_in_under_a_cue_of_beat_0(self):
        song = Song(TWO, (0, 1), cues=[(0, "alto", 1)])
        self.assertEqual(song.first(), (0, 1))
        self.assertEqual(song.standing(0), (1, 1))
        self.assertEqual(song.roots(), [(0, (1, 1))])


class Refused(unittest.TestCase):
    def check(self, choir, first, cues, breaths):
        expected = due(choir, first, cues, breaths)
        with self.subTest(handed=repr((first, cues, breaths))[:300]):
            if expected is None:
                self.assertIsInstance(Song(choir, first, cues=cues, breaths=breaths), Song)
                return
            with self.assertRaises(SongError) as told:
                Song(choir, first, cues=cues, breaths=breaths)
            self.assertIs(type(told.exception), expected[0])
            self.assertIs(type(told.exception.at), int)
            self.assertEqual(told.exception.at, expected[1])

    def test_the_first_place_that_is_wrong(self):
        for odd in ODD + [0, 1, 7, [0, 1], (0, 2), (0, 1, 1), (0,), (True, 1), "00", 10 ** 999]:
            for choir in (TWO, odd, Choir):
                for first in ((0, 1), odd):
                    for cues in ([], odd, [None]):
                        self.check(choir, first, cues, [])
                        self.check(choir, first, cues, odd)
        self.assertEqual(due(TWO, (0, 1), [None], [None]), (Wrong, 3))
        self.assertEqual(due(TWO, (0, 1), [None], [3]), (BadCue, 0))
        self.assertEqual(due(TWO, (0, 1), {}, [None]), (Wrong, 2))

    def test_one_cue_or_breath_too_many(self):
        cues = [(at, "alto", 1) for at in range(41)]
        self.check(TWO, (0, 1), cues, [])
        self.check(TWO, (0, 1), cues[1:], [])
        self.check(TWO, (0, 1), tuple(cues), [])
        self.check(TWO, (0, 1), [None] * 41, [])
        self.check(TWO, (0, 1), [None] * 40, [])
        self.check(TWO, (0, 1), [], list(range(41)))
        self.check(TWO, (0, 1), [], tuple(range(40)))
        self.check(TWO, (0, 1), cues, list(range(41)))
        self.check(TWO, (0, 1), [], [0] * 4000)

    def test_cues_and_breaths_that_are_none_by_any_part(self):
        for chance in chances(10, 301):
            choir = made_choir(chance)
            first = made_standing(chance, choir)
            cues = made_cues(chance, choir, 4, 6)
            breaths = chance.sample(range(6), 3)
            for thing in spoilt(cues):
                self.check(choir, first, thing, breaths)
            for thing in spoilt(tuple(breaths)):
                self.check(choir, first, cues, thing)
            for thing in spoilt(first):
                self.check(choir, thing, cues, breaths)

    def test_the_bounds_of_beats_and_notes(self):
        for at in (-1, 0, 10 ** 18, 10 ** 18 + 1, 10 ** 999):
            self.check(TWO, (0, 1), [(at, "alto", 1)], [])
            self.check(TWO, (0, 1), [], [at])
        for note in (-1, 0, 1, 2, 3):
            self.check(TWO, (0, 1), [(3, "alto", note)], [])
        for name in ("alto", "bass", "tenor", "Alto", "", "alto "):
            self.check(TWO, (0, 1), [(3, name, 1)], [])

    def test_one_beat_and_name_again(self):
        for cues in (
            [(3, "alto", 1), (3, "alto", 1)],
            [(3, "alto", 1), (3, "alto", 0)],
            [(3, "alto", 1), (3, "bass", 1), (4, "alto", 1), (3, "bass", 0), None],
            [(3, "alto", 1), None, (3, "alto", 1)],
        ):
            self.check(TWO, (0, 1), cues, [])
        self.check(TWO, (0, 1), [], [3, 4, 3])
        self.check(TWO, (0, 1), [], [1, True])
        self.check(TWO, (0, 1), [], [True])


class SungBeatByBeat(unittest.TestCase):
    def check(self, song, last):
        walk = Sung(song, last)
        for at in range(last + 1):
            self.assertEqual(song.standing(at), walk.standings[at], at)
            for place, name in enumerate(song.choir().names()):
                self.assertEqual(song.note(at, name), walk.standings[at][place])
        roots = sorted({0, *song.breaths(), *[cue[0] for cue in song.cues()]})
        self.assertEqual(song.roots(), [(at, song.standing(at)) for at in roots])
        for at, root in song.roots():
            if at <= last:
                self.assertEqual(root, walk.standings[at])
        # At a far beat there is what the last root has come to.
        for at in FAR:
            if at > roots[-1]:
                root = song.roots()[-1][1]
                self.assertEqual(song.standing(at), slow_behind(song.choir(), root, at - roots[-1]))

    def test_few_cues_and_breaths(self):
        for chance in chances(80, 310):
            self.check(made_song(chance, last=chance.choice([3, 12, 60])), 150)

    def test_forty_of_each(self):
        for chance in chances(20, 311):
            choir = made_choir(chance)
            last = chance.choice([60, 200])
            self.check(made_song(chance, choir, last, 40, 40), 260)

    def test_cues_at_one_beat_at_beat_0_and_at_neighbouring_beats(self):
        for chance in chances(40, 312):
            choir = made_choir(chance)
            cues = [(at, name, chance.randrange(choir.notes())) for at in (0, 1, 2, 9, 10) for name in choir.names()]
            cues = chance.sample(cues, chance.randint(1, min(len(cues), 40)))
            breaths = chance.sample([0, 1, 3, 9, 11], chance.randint(0, 3))
            self.check(Song(choir, made_standing(chance, choir), cues=cues, breaths=breaths), 90)

    def test_cues_at_far_beats(self):
        for chance in chances(40, 313):
            choir = made_choir(chance)
            beats = sorted(chance.sample([5, 10 ** 17, 10 ** 17 + 1, 2 ** 59, 10 ** 18 - 1, 10 ** 18], 3))
            cued = chance.choice(choir.names())
            cues = [(at, cued, chance.randrange(choir.notes())) for at in beats]
            song = Song(choir, made_standing(chance, choir), cues=cues)
            last = 0
            root = song.first()
            told = [(0, root)]
            for at, _, note in cues:
                sung = dict(zip(choir.names(), slow_behind(choir, root, at - last)))
                root = tuple({**sung, cued: note}[name] for name in choir.names())
                last = at
                told.append((at, root))
            self.assertEqual(song.roots(), told)
            for (at, root), (after, _) in zip(told, told[1:] + [(10 ** 90, None)]):
                for later in (at, at + 1, at + 2, at + 77, after - 1):
                    if at <= later < after:
                        self.assertEqual(song.standing(later), slow_behind(choir, root, later - at))
                        self.assertEqual(song.note(later, cued), song.standing(later)[choir.names().index(cued)])

    def test_a_cue_of_what_would_be_sung_anyway_and_a_breath_count_anew(self):
        # alto sings at 2n what it sang at n, at 2n + 1 the other note.
        choir = Choir(2, 2, [("alto", ("alto", "alto"), ((0, 1), (1, 0)))])
        plain = Song(choir, (0,))
        self.assertEqual([plain.note(at, "alto") for at in range(8)], [0, 1, 1, 0, 1, 0, 0, 1])
        breath = plain.with_breath(3)
        self.assertEqual([breath.note(at, "alto") for at in range(8)], [0, 1, 1, 0, 1, 1, 0, 1])
        self.assertEqual(breath.roots(), [(0, (0,)), (3, (0,))])
        cue = plain.with_cue(2, "alto", 1)
        self.assertEqual([cue.note(at, "alto") for at in range(8)], [0, 1, 1, 0, 0, 1, 0, 1])

    def test_a_breath_at_beat_0_changes_nothing_that_is_sung(self):
        for chance in chances(20, 314):
            song = made_song(chance, breaths=0)
            with_it = song.with_breath(0)
            self.assertEqual(with_it.roots(), song.roots())
            for at in [*range(100), *FAR]:
                self.assertEqual(with_it.standing(at), song.standing(at))

    def test_each_root_stands_once(self):
        song = Song(TWO, (0, 1), cues=[(3, "alto", 1), (3, "bass", 0), (0, "alto", 1)], breaths=[3, 0, 5])
        self.assertEqual([at for at, _ in song.roots()], [0, 3, 5])
        self.assertEqual(song.roots()[1], (3, (1, 0)))

    def test_what_a_voice_sings_hangs_on_one_note_alone(self):
        # [7]: of all the first standings and cues one note is told, which alone changes it.
        for chance in chances(40, 315):
            song = made_song(chance, last=20)
            choir = song.choir()
            at = chance.choice([*range(60), 10 ** 18, 10 ** 40])
            name = chance.choice(choir.names())
            source = road(song, at, name)[-1]
            for _ in range(10):
                first = made_standing(chance, choir)
                cues = [(cue[0], cue[1], chance.randrange(choir.notes())) for cue in song.cues()]
                other = Song(choir, first, cues=cues, breaths=song.breaths())
                if other.note(*source) == song.note(*source):
                    self.assertEqual(other.note(at, name), song.note(at, name))


class PutOtherwise(unittest.TestCase):
    def kept(self, song):
        return (song.choir(), song.first(), song.cues(), song.breaths(), song.roots())

    def same(self, song, choir, first, cues, breaths):
        other = Song(choir, first, cues=cues, breaths=breaths)
        self.assertEqual(song, other)
        self.assertEqual(self.kept(song), self.kept(other))
        for at in [*range(40), *FAR]:
            self.assertEqual(song.standing(at), other.standing(at))

    def refused(self, kind, ask, *handed):
        with self.assertRaises(SongError) as told:
            ask(*handed)
        self.assertIs(type(told.exception), kind)
        return told.exception

    def test_a_cue_more_and_one_less(self):
        for chance in chances(40, 340):
            song = made_song(chance, last=20)
            kept = self.kept(song)
            at = chance.choice([0, 1, 5, 20, 21, 10 ** 18])
            name = chance.choice(song.choir().names())
            note = chance.randrange(song.choir().notes())
            if (at, name) in [cue[:2] for cue in song.cues()]:
                told = self.refused(There, song.with_cue, at, name, note)
                self.assertEqual((told.beat, told.name), (at, name))
            else:
                more = song.with_cue(at, name, note)
                self.assertIsInstance(more, Song)
                self.same(more, song.choir(), song.first(), song.cues() + [(at, name, note)], song.breaths())
                self.assertNotEqual(more, song)
                self.assertEqual(more.without(at, name), song)
                self.assertEqual(self.kept(more.without(at, name)), kept)
                told = self.refused(NoCue, song.without, at, name)
                self.assertEqual((told.beat, told.name), (at, name))
            for cue in song.cues():
                less = song.without(cue[0], cue[1])
                cues = [other for other in song.cues() if other != cue]
                self.same(less, song.choir(), song.first(), cues, song.breaths())
                self.assertEqual(less.with_cue(*cue), song)
            self.assertEqual(self.kept(song), kept)

    def test_a_breath_more_and_one_less(self):
        for chance in chances(40, 341):
            song = made_song(chance, last=20)
            kept = self.kept(song)
            at = chance.choice([0, 1, 5, 20, 21, 10 ** 18])
            if at in song.breaths():
                told = self.refused(There, song.with_breath, at)
                self.assertEqual(told.beat, at)
                self.assertIsNone(told.name)
            else:
                more = song.with_breath(at)
                self.same(more, song.choir(), song.first(), song.cues(), song.breaths() + [at])
                self.assertNotEqual(more, song)
                self.assertEqual(more.without_breath(at), song)
                told = self.refused(NoCue, song.without_breath, at)
                self.assertEqual(told.beat, at)
                self.assertIsNone(told.name)
            for breath in song.breaths():
                less = song.without_breath(breath)
                self.same(less, song.choir(), song.first(), song.cues(), [at for at in song.breaths() if at != breath])
                self.assertEqual(less.with_breath(breath), song)
            self.assertEqual(self.kept(song), kept)

    def test_a_cue_is_no_breath(self):
        song = Song(TWO, (0, 1), cues=[(3, "alto", 1)], breaths=[5])
        self.assertEqual(song.with_breath(3).breaths(), [3, 5])
        self.assertEqual(song.with_cue(5, "alto", 0).cues(), [(3, "alto", 1), (5, "alto", 0)])
        self.assertEqual(song.with_cue(3, "bass", 0).cues(), [(3, "alto", 1), (3, "bass", 0)])
        self.refused(NoCue, song.without_breath, 3)
        self.refused(NoCue, song.without, 5, "alto")
        self.refused(NoCue, song.without, 3, "bass")

    def test_there_comes_ahead_of_full(self):
        cues = [(at, "alto", 1) for at in range(40)]
        breaths = list(range(0, 80, 2))
        song = Song(TWO, (0, 1), cues=cues, breaths=breaths)
        kept = self.kept(song)
        told = self.refused(There, song.with_cue, 39, "alto", 0)
        self.assertEqual((told.beat, told.name), (39, "alto"))
        self.refused(Full, song.with_cue, 40, "alto", 0)
        self.refused(Full, song.with_cue, 39, "bass", 0)
        told = self.refused(There, song.with_breath, 78)
        self.assertEqual((told.beat, told.name), (78, None))
        self.refused(Full, song.with_breath, 79)
        self.assertEqual(self.kept(song), kept)
        less = song.without(0, "alto").without_breath(78)
        self.assertEqual((len(less.cues()), len(less.breaths())), (39, 39))
        self.assertEqual(less.with_breath(78).with_cue(0, "alto", 1), song)

    def test_thirty_nine_are_not_full(self):
        song = Song(TWO, (0, 1), cues=[(at, "bass", 1) for at in range(39)], breaths=list(range(39)))
        self.assertEqual(len(song.with_cue(39, "bass", 1).cues()), 40)
        self.assertEqual(len(song.with_breath(39).breaths()), 40)
        # Cues and breaths are counted each by themselves.
        self.assertEqual(len(song.with_cue(39, "bass", 1).with_breath(39).breaths()), 40)

    def test_a_song_goes_on_from_a_root_beat(self):
        for chance in chances(60, 342):
            song = made_song(chance, last=30)
            kept = self.kept(song)
            roots = dict(song.roots())
            for at in range(35):
                if at not in roots:
                    self.assertEqual(self.refused(NoRoot, song.from_root, at).beat, at)
                    continue
                later = song.from_root(at)
                self.same(
                    later, song.choir(), roots[at],
                    [(cue[0] - at, cue[1], cue[2]) for cue in song.cues() if cue[0] > at],
                    [breath - at for breath in song.breaths() if breath > at],
                )
                for beats in [*range(60), *FAR]:
                    self.assertEqual(later.standing(beats), song.standing(at + beats))
            self.assertEqual(self.kept(song), kept)

    def test_from_the_first_beat_cues_of_beat_0_stand_in_the_first_standing(self):
        song = Song(TWO, (0, 1), cues=[(0, "alto", 1), (2, "bass", 0)], breaths=[0, 4])
        later = song.from_root(0)
        self.assertEqual(later, Song(TWO, (1, 1), cues=[(2, "bass", 0)], breaths=[4]))
        self.assertNotEqual(later, song)

    def test_no_root_at_far_beats(self):
        song = Song(TWO, (0, 1), cues=[(10 ** 18, "alto", 1)])
        self.assertEqual(song.from_root(10 ** 18).cues(), [])
        for at in (1, 10 ** 18 - 1, 10 ** 18 + 1):
            self.assertEqual(self.refused(NoRoot, song.from_root, at).beat, at)

    def test_songs_put_together_in_another_order(self):
        for chance in chances(30, 343):
            song = made_song(chance)
            deeds = [("cue", cue) for cue in song.cues()] + [("breath", at) for at in song.breaths()]
            chance.shuffle(deeds)
            other = Song(song.choir(), song.first())
            for kind, what in deeds:
                other = other.with_cue(*what) if kind == "cue" else other.with_breath(what)
            self.assertEqual(other, song)
            self.assertEqual(self.kept(other), self.kept(song))
            self.assertEqual([other.standing(at) for at in range(99)], [song.standing(at) for at in range(99)])


class Behind(unittest.TestCase):
    """[8]: what is ahead of a cue stays, and what is behind it is the song that begins there."""

    def test_what_is_ahead_of_a_cue_or_a_breath_stays(self):
        for chance in chances(40, 80):
            song = made_song(chance, last=30)
            at = chance.randint(31, 60)
            name = chance.choice(song.choir().names())
            note = chance.randrange(song.choir().notes())
            cued = song.with_cue(at, name, note)
            breathed = song.with_breath(at)
            for ahead in range(at):
                self.assertEqual(cued.standing(ahead), song.standing(ahead))
                self.assertEqual(breathed.standing(ahead), song.standing(ahead))
            self.assertEqual(breathed.standing(at), song.standing(at))
            stood = dict(zip(song.choir().names(), song.standing(at)))
            stood[name] = note
            begun = Song(song.choir(), tuple(stood[own] for own in song.choir().names()))
            for beats in [*range(60), *FAR]:
                self.assertEqual(cued.standing(at + beats), begun.standing(beats))
                self.assertEqual(breathed.standing(at + beats), Song(song.choir(), song.standing(at)).standing(beats))

    def test_songs_beside_one_another(self):
        for chance in chances(30, 81):
            pace = chance.randint(2, 4)
            names = chance.sample("abcdef", 5)
            choirs = []
            for own in (names[:2], names[2:]):
                voices = made_voices(chance, pace, 2, len(own))
                put = dict(zip([voice[0] for voice in voices], own))
                choirs.append(Choir(pace, 2, [
                    (put[voice[0]], tuple(put[elder] for elder in voice[1]), voice[2]) for voice in voices
                ]))
            beats = chance.sample(range(1, 20), 4)
            songs = []
            for choir in choirs:
                cues = [(at, chance.choice(choir.names()), chance.randrange(2)) for at in beats[:2]]
                songs.append(Song(choir, made_standing(chance, choir), cues=cues, breaths=beats[2:]))
            both = beside(*choirs)
            first = {}
            for song in songs:
                first.update(zip(song.choir().names(), song.first()))
            together = Song(
                both, tuple(first[name] for name in both.names()),
                cues=songs[0].cues() + songs[1].cues(), breaths=beats[2:],
            )
            for at in [*range(60), *FAR]:
                for song in songs:
                    for name in song.choir().names():
                        self.assertEqual(together.note(at, name), song.note(at, name))


class Equal(unittest.TestCase):
    def test_cues_and_breaths_in_whatever_order_and_kind(self):
        for chance in chances(30, 350):
            song = made_song(chance)
            cues = song.cues()
            breaths = song.breaths()
            chance.shuffle(cues)
            chance.shuffle(breaths)
            choir = Choir(song.choir().pace(), song.choir().notes(), song.choir().voices()[::-1])
            for kind in (list, tuple):
                other = Song(choir, song.first(), cues=kind(cues), breaths=kind(breaths))
                self.assertIs(song == other, True)
                self.assertIs(song != other, False)

    def test_put_otherwise_in_each_part(self):
        song = Song(TWO, (0, 1), cues=[(3, "alto", 1)], breaths=[4])
        other_choir = Choir(2, 2, [TWO.voices()[0], ("bass", ("bass", "bass"), ((0, 1), (1, 0)))])
        for other in (
            Song(other_choir, (0, 1), cues=[(3, "alto", 1)], breaths=[4]),
            Song(TWO, (0, 0), cues=[(3, "alto", 1)], breaths=[4]),
            Song(TWO, (0, 1), cues=[(3, "alto", 0)], breaths=[4]),
            Song(TWO, (0, 1), cues=[(3, "bass", 1)], breaths=[4]),
            Song(TWO, (0, 1), cues=[(2, "alto", 1)], breaths=[4]),
            Song(TWO, (0, 1), cues=[], breaths=[4]),
            Song(TWO, (0, 1), cues=[(3, "alto", 1)], breaths=[5]),
            Song(TWO, (0, 1), cues=[(3, "alto", 1)], breaths=[4, 5]),
            Song(TWO, (0, 1), cues=[(3, "alto", 1)]),
        ):
            self.assertIs(song == other, False)
            self.assertIs(other == song, False)
            self.assertIs(song != other, True)

    def test_what_sounds_alike_is_not_equal_for_that(self):
        song = Song(TWO, (0, 1))
        self.assertIs(song == song.with_breath(0), False)
        self.assertIs(song == song.with_cue(0, "alto", 0), False)

    def test_a_song_is_equal_to_nothing_else(self):
        song = Song(TWO, (0, 1))
        for other in ODD + [TWO, (0, 1), (TWO, (0, 1)), song.roots(), Song, 1]:
            self.assertIs(song == other, False)
            self.assertIs(other == song, False)
            self.assertIs(song != other, True)
        self.assertIs(TWO == song, False)


class TheAskersOwn(unittest.TestCase):
    def test_told_lists_are_changed_and_told_again(self):
        for chance in chances(20, 360):
            song = made_song(chance, cues=4, breaths=3)
            for ask in (song.cues, song.breaths, song.roots):
                told = ask()
                kept = list(told)
                self.assertIs(type(told), list)
                told.clear()
                self.assertEqual(ask(), kept)
                self.assertIsNot(ask(), ask())
            walk = Sung(song, 99)
            self.assertEqual([song.standing(at) for at in range(100)], walk.standings)

    def test_handed_lists_are_emptied_and_filled_behind_the_call(self):
        for chance in chances(20, 361):
            choir = made_choir(chance)
            cues = made_cues(chance, choir, 6, 30)
            breaths = chance.sample(range(30), 4)
            handed = (list(cues), list(breaths))
            song = Song(choir, made_standing(chance, choir), cues=cues, breaths=breaths)
            self.assertEqual((cues, breaths), handed)
            walk = Sung(song, 99)
            cues.clear()
            breaths.append(31)
            self.assertEqual(song.cues(), sorted(handed[0]))
            self.assertEqual(song.breaths(), sorted(handed[1]))
            self.assertEqual([song.standing(at) for at in range(100)], walk.standings)

    def test_asking_far_changes_nothing(self):
        song = made_song(random.Random(5), cues=3)
        kept = (song.roots(), [song.standing(at) for at in range(50)])
        for at in FAR:
            song.standing(at)
        self.assertEqual((song.roots(), [song.standing(at) for at in range(50)]), kept)
