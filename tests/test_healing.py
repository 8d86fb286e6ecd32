"""Promises 72 and 73: whether a cue heals, whether a beat is idle, and canons."""

import unittest

from halfpace.choirs import Choir
from halfpace.duos import Duo
from halfpace.ears import Run
from halfpace.errors import Full, SongError, There, TooMany, Unlike
from halfpace.matches import Match, canon, healing, is_idle
from halfpace.songs import Song
from tests.slow import (
    Sung, chances, made_choir, made_cues, made_ear, made_lag, made_song, made_standing, rising_choir, slow_heard,
)

LAST = 200
HELD = Choir(2, 2, [("a", ("a", "a"), ((0, 1), (0, 1)))])
LEFT = Choir(2, 2, [("a", ("a", "a"), ((1, 1), (1, 1)))])
PAIR = Choir(2, 2, [("a", ("b", "b"), ((0, 1), (0, 1))), ("b", ("b", "b"), ((1, 1), (1, 1)))])
# Many triples come, since no note is lost.
MANY = Choir(2, 2, [
    ("a", ("b", "c"), ((0, 1), (1, 0))),
    ("b", ("c", "a"), ((1, 0), (0, 1))),
    ("c", ("a", "b"), ((0, 1), (1, 0))),
])
EAR = [("a", (0, 1))]


def unlike_beats(one, other, ear, last):
    """The beats to the last one at which two songs sound otherwise, by a walk."""
    walks = [Sung(song, last).standings for song in (one, other)]
    return [
        beat for beat, sung in enumerate(zip(*walks))
        if slow_heard(one.choir(), sung[0], ear) != slow_heard(other.choir(), sung[1], ear)
    ]


def made_cue_songs(many, seed):
    """Songs, an ear, and a cue ahead of, between or behind their cues and breaths."""
    for chance in chances(many, seed):
        made = rising_choir if chance.random() < 0.7 else made_choir
        choir = made(chance, None, None, chance.randint(1, 2))
        song = made_song(chance, choir, 50, chance.randint(0, 5), chance.randint(0, 3))
        ear = made_ear(chance, choir, chance.randint(1, 2))
        yield chance, song, ear


class Expected:
    """What a changed song's sounding tells, near beats by a walk, far ones by the match of the two songs."""

    def __init__(self, test, changed, song, ear):
        self.match = Match(changed, ear, song, ear)
        self.near = unlike_beats(changed, song, ear, LAST)
        self.test = test

    def check(self, told):
        test = self.test
        test.assertIs(type(told), tuple)
        test.assertEqual([beat for beat in range(LAST + 1) if self.match.is_unlike(beat)], self.near)
        if told == ("unheard",):
            test.assertEqual(self.near, [])
            test.assertIsNone(self.match.first(0))
        elif told == ("never",):
            for beat in (10 ** 18, 10 ** 40, 10 ** 60):
                test.assertIsNotNone(self.match.first(beat))
        else:
            test.assertEqual(told[0], "healed")
            test.assertEqual(len(told), 2)
            test.assertIs(self.match.is_unlike(told[1] - 1), True)
            test.assertIsNone(self.match.first(told[1]))
            if told[1] <= LAST:
                test.assertEqual(self.near[-1], told[1] - 1)


class Healing(unittest.TestCase):
    def test_near_cues_against_a_walk(self):
        kinds = {"unheard": 0, "healed": 0, "never": 0}
        for chance, song, ear in made_cue_songs(150, 720):
            choir = song.choir()
            beat, name, note = made_cues(chance, choir, 1, 60)[0]
            if (beat, name) in [cue[:2] for cue in song.cues()]:
                continue
            try:
                told = healing(song, ear, beat, name, note)
            except TooMany:
                continue
            kinds[told[0]] += 1
            Expected(self, song.with_cue(beat, name, note), song, ear).check(told)
        self.assertGreater(min(kinds.values()), 10)

    def test_far_cues(self):
        for chance, song, ear in made_cue_songs(60, 721):
            choir = song.choir()
            beat = chance.choice([10 ** 18, 10 ** 18 - 1, chance.randrange(10 ** 18), choir.pace() ** 20])
            name = chance.choice(choir.names())
            note = chance.randrange(choir.notes())
            try:
                told = healing(song, ear, beat, name, note)
            except TooMany:
                continue
            if told[0] == "healed":
                self.assertGreater(told[1], beat)
            Expected(self, song.with_cue(beat, name, note), song, ear).check(told)

    def test_by_hand(self):
        held = Song(HELD, (0,), cues=[(9, "a", 0)])
        self.assertEqual(healing(held, EAR, 4, "a", 1), ("healed", 9))
        self.assertEqual(healing(held, EAR, 4, "a", 0), ("unheard",))
        self.assertEqual(healing(held, EAR, 9 + 1, "a", 1), ("never",))
        self.assertEqual(healing(held, EAR, 0, "a", 1), ("healed", 9))
        self.assertEqual(healing(held, EAR, 8, "a", 1), ("healed", 9))
        self.assertEqual(healing(held, [("a", (4, 4))], 4, "a", 1), ("unheard",))
        self.assertEqual(healing(Song(LEFT, (0,)), EAR, 0, "a", 1), ("healed", 1))
        self.assertEqual(healing(Song(LEFT, (0,)), EAR, 10 ** 18, "a", 0), ("healed", 10 ** 18 + 1))
        self.assertEqual(healing(Song(LEFT, (0,)), EAR, 10 ** 18, "a", 1), ("unheard",))
        # The other voice's note is heard at the next figure, then no more.
        self.assertEqual(healing(Song(PAIR, (0, 0)), EAR, 5, "b", 0), ("healed", 7))
        self.assertEqual(healing(Song(PAIR, (0, 0)), EAR, 5, "b", 1), ("unheard",))

    def test_a_cue_of_what_would_be_sung_anyway_changes_what_comes(self):
        turned = Choir(2, 2, [("a", ("a", "a"), ((0, 1), (1, 0)))])
        song = Song(turned, (0,))
        note = song.note(3, "a")
        told = healing(song, EAR, 3, "a", note)
        self.assertEqual(told, ("never",))
        Expected(self, song.with_cue(3, "a", note), song, EAR).check(told)

    def test_refusals_in_their_order(self):
        cues = [(beat, "a", 0) for beat in range(40)]
        full = Song(MANY, (0, 1, 0), cues=cues)
        with self.assertRaises(There) as told:
            healing(full, EAR, 7, "a", 1, most=1)
        self.assertEqual((told.exception.beat, told.exception.name), (7, "a"))
        with self.assertRaises(Full):
            healing(full, EAR, 7, "b", 1, most=1)
        with self.assertRaises(TooMany) as told:
            healing(full.without(3, "a"), EAR, 45, "b", 1, most=1)
        self.assertEqual(told.exception.most, 1)
        with self.assertRaises(TooMany) as told:
            healing(Song(MANY, (0, 0, 1)), EAR, 7, "b", 1, most=30)
        self.assertEqual(told.exception.most, 30)

    def test_refused_just_where_the_match_is(self):
        refused = 0
        for chance, song, ear in made_cue_songs(60, 722):
            beat, name, note = made_cues(chance, song.choir(), 1, 60)[0]
            if (beat, name) in [cue[:2] for cue in song.cues()]:
                continue
            changed = song.with_cue(beat, name, note)
            for most in (1, 2, 5, 20, 400):
                try:
                    last = Match(changed, ear, song, ear, most=most).last()
                except TooMany:
                    refused += 1
                    with self.assertRaises(TooMany) as told:
                        healing(song, ear, beat, name, note, most=most)
                    self.assertEqual(told.exception.most, most)
                else:
                    kinds = {"alike": "unheard", "last": "healed", "again": "never"}
                    self.assertEqual(healing(song, ear, beat, name, note, most=most)[0], kinds[last[0]])
        self.assertGreater(refused, 30)

    def test_nothing_is_changed(self):
        for chance, song, ear in made_cue_songs(10, 723):
            kept = (song.cues(), song.breaths(), list(ear))
            try:
                healing(song, ear, 77, song.choir().names()[0], 0)
            except TooMany:
                pass
            self.assertEqual((song.cues(), song.breaths(), ear), kept)


class Idle(unittest.TestCase):
    def test_root_beats_always_are(self):
        for _, song, ear in made_cue_songs(40, 724):
            for beat, _ in song.roots():
                self.assertIs(is_idle(song, ear, beat), True)
                self.assertIs(is_idle(song, ear, beat, most=1), True)
        many = Song(MANY, (0, 0, 1), breaths=[4])
        self.assertIs(is_idle(many, EAR, 4, most=1), True)
        self.assertIs(is_idle(many, EAR, 0, most=1), True)
        with self.assertRaises(TooMany) as told:
            is_idle(many, EAR, 5, most=1)
        self.assertEqual(told.exception.most, 1)

    def test_other_beats_by_a_song_with_a_breath_there(self):
        kinds = {True: 0, False: 0}
        for chance, song, ear in made_cue_songs(120, 725):
            roots = [beat for beat, _ in song.roots()]
            beat = chance.choice([chance.randint(1, 60), 10 ** 18, chance.randrange(10 ** 18)])
            if beat in roots:
                continue
            try:
                told = is_idle(song, ear, beat)
            except TooMany:
                continue
            breathed = Song(song.choir(), song.first(), cues=song.cues(), breaths=song.breaths() + [beat])
            kinds[told] += 1
            self.assertEqual(Match(breathed, ear, song, ear).last() == ("alike",), told)
            self.assertEqual(told, Match(breathed, ear, song, ear).first(0) is None)
            if told:
                self.assertEqual(unlike_beats(breathed, song, ear, LAST), [])
        self.assertGreater(min(kinds.values()), 10)

    def test_a_song_of_forty_breaths(self):
        turned = Choir(2, 2, [("a", ("a", "a"), ((0, 1), (1, 0)))])
        breaths = [beat for beat in range(60, 100)]
        for choir, idle in ((turned, False), (HELD, True)):
            song = Song(choir, (0,), breaths=breaths)
            self.assertEqual(len(song.breaths()), 40)
            self.assertIs(is_idle(song, EAR, 3), idle)
            self.assertIs(is_idle(song, EAR, 200), idle)
            self.assertIs(is_idle(song, EAR, 70), True)
            self.assertIs(is_idle(song, [("a", (2, 2))], 3), True)
            self.assertEqual(song.breaths(), breaths)


class Canons(unittest.TestCase):
    def test_against_a_walk_from_the_last_root_beat_on(self):
        kinds = {"none": 0, "near": 0, "far": 0}
        for chance in chances(150, 730):
            made = rising_choir if chance.random() < 0.6 else made_choir
            choir = made(chance, None, None, chance.randint(1, 2))
            song = made_song(chance, choir, 40)
            ear = made_ear(chance, choir, chance.randint(1, 2))
            later_ear = ear if chance.random() < 0.5 else made_ear(chance, choir, len(ear))
            lag = made_lag(chance, choir.pace()) if chance.random() < 0.5 else chance.randint(0, 40)
            last = song.roots()[-1][0]
            try:
                told = canon(song, ear, later_ear, lag)
            except TooMany:
                continue
            unlike = []
            for wait in range(120):
                one = slow_heard(choir, song.standing(last + wait), ear)
                unlike += [wait] if one != slow_heard(choir, song.standing(last + wait + lag), later_ear) else []
            if unlike:
                kinds["near"] += 1
                self.assertEqual(told, unlike[0])
            else:
                kinds["none" if told is None else "far"] += 1
                self.assertTrue(told is None or told >= 120)
                run = Run(choir, song.roots()[-1][1], ear)
                later = Run(choir, song.roots()[-1][1], later_ear)
                self.assertEqual(told is None, Duo(run, later, lag=lag).ladder(0) is not None)
        self.assertGreater(min(kinds["none"], kinds["near"]), 10)

    def test_an_ear_against_itself_without_a_lag(self):
        for chance in chances(20, 731):
            song = made_song(chance, made_choir(chance, None, None, 2), 40)
            ear = made_ear(chance, song.choir(), 3)
            self.assertIsNone(canon(song, ear, ear, 0))

    def test_by_hand(self):
        song = Song(LEFT, (1,), cues=[(5, "a", 0)])
        self.assertEqual(canon(song, EAR, EAR, 1), 0)
        self.assertEqual(canon(song, EAR, [("a", (1, 0))], 1), 1)
        self.assertIsNone(canon(song, [("a", (1, 1))], EAR, 1))
        self.assertIsNone(canon(song, [("a", (1, 1))], EAR, 10 ** 18))
        self.assertEqual(canon(song, [("a", (1, 1))], EAR, 0), 0)
        self.assertIsNone(canon(song.with_breath(9), EAR, EAR, 3))

    def test_refused_as_a_duo(self):
        song = Song(MANY, (0, 0, 1))
        with self.assertRaises(Unlike):
            canon(song, EAR, EAR + EAR, 5, most=1)
        with self.assertRaises(TooMany) as told:
            canon(song, EAR, EAR, 5, most=1)
        self.assertEqual(told.exception.most, 1)
        for chance in chances(20, 732):
            choir = made_choir(chance, None, None, 2)
            song = Song(choir, made_standing(chance, choir))
            ear = made_ear(chance, choir, 1)
            for most in (1, 3, 10, 100):
                run = Run(choir, song.first(), ear)
                try:
                    first = Duo(run, run, lag=6, most=most).first(0)
                except SongError:
                    self.assertRaises(TooMany, canon, song, ear, ear, 6, most=most)
                else:
                    self.assertEqual(canon(song, ear, ear, 6, most=most), first)


if __name__ == "__main__":
    unittest.main()
