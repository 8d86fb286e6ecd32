"""Promises 70 and 71: matches of two songs, and the beats at which they are unlike."""

import unittest

from halfpace.choirs import Choir
from halfpace.duos import Duo
from halfpace.ears import Run
from halfpace.errors import SongError, TooMany, Unlike
from halfpace.figures import number_of
from halfpace.matches import Match
from halfpace.songs import Song
from tests.slow import (
    Sung, chances, made_choir, made_cues, made_ear, made_ears, made_song, made_standing, rising_choir, slow_behind,
    slow_heard,
)

LAST = 220
FAR = [10 ** 18, 3 * 10 ** 18, 10 ** 40 - 1, 10 ** 40, 10 ** 40 + 1, 10 ** 60]
HELD = Choir(2, 2, [("a", ("a", "a"), ((0, 1), (0, 1)))])
LEFT = Choir(2, 2, [("a", ("a", "a"), ((1, 1), (1, 1)))])
EAR = [("a", (0, 1))]


def made_songs(chance, last=60):
    """Two songs of one pace, mostly of one choir and much alike."""
    made = rising_choir if chance.random() < 0.5 else made_choir
    choir = made(chance, None, None, chance.randint(1, 2))
    one = made_song(chance, choir, chance.choice([3, last]))
    kind = chance.randrange(4)
    if kind == 0:
        return one, one
    if kind == 1:
        cues = one.cues()[1:] + [cue for cue in made_cues(chance, choir, 2, last) if cue[:2] not in
                                 [other[:2] for other in one.cues()]]
        return one, Song(choir, one.first(), cues=cues, breaths=one.breaths()[1:])
    if kind == 2:
        return one, made_song(chance, choir, last)
    other = made(chance, choir.pace(), None, chance.randint(1, 2))
    return one, made_song(chance, other, last)


def made_matches(many, seed, last=60):
    """Matches that are not refused, as chance and what they are made of."""
    for chance in chances(many, seed):
        one, other = made_songs(chance, last)
        ear, other_ear = made_ears(chance, one.choir(), other.choir(), chance.randint(1, 2))
        lag = chance.choice([0, 0, 0, 1, 2, 5, 17, 40, chance.randint(0, 100), 10 ** 18])
        try:
            Match(one, ear, other, other_ear, lag=lag)
        except TooMany:
            continue
        yield chance, (one, ear, other, other_ear), lag


def slow_bits(handed, lag, last):
    one, ear, other, other_ear = handed
    walk = Sung(one, last).standings
    if lag > 1000:
        later = [other.standing(beat + lag) for beat in range(last + 1)]
    else:
        later = Sung(other, last + lag).standings[lag:]
    return [slow_heard(one.choir(), sung, ear) != slow_heard(other.choir(), behind, other_ear)
            for sung, behind in zip(walk, later)]


def sounds_unlike(handed, lag, beat):
    one, ear, other, other_ear = handed
    heard = []
    for song, hearing, at in ((one, ear, beat), (other, other_ear, beat + lag)):
        last, root = [part for part in song.roots() if part[0] <= at][-1]
        heard.append(slow_heard(song.choir(), slow_behind(song.choir(), root, at - last), hearing))
    return heard[0] != heard[1]


def parts(handed, lag):
    """The parts of a match as [70] tells them: where each begins, its two runs, and its lag."""
    one, ear, other, other_ear = handed
    begins = {0} | {beat for beat, _ in one.roots()} | {beat - lag for beat, _ in other.roots() if beat - lag > 0}
    told = []
    for begin in sorted(begins):
        beat, root = [part for part in one.roots() if part[0] <= begin][-1]
        other_beat, other_root = [part for part in other.roots() if part[0] <= begin + lag][-1]
        mine = Run(one.choir(), root, ear)
        others = Run(other.choir(), other_root, other_ear)
        if beat == begin:
            told.append((begin, mine, others, begin + lag - other_beat))
        else:
            told.append((begin, others, mine, begin - beat))
    return told


class Walked(unittest.TestCase):
    def test_against_a_walk(self):
        for place, (chance, handed, lag) in enumerate(made_matches(110, 700)):
            bits = slow_bits(handed, lag, LAST)
            found = [beat for beat in range(LAST + 1) if bits[beat]]
            match = Match(*handed, lag=lag)
            if place % 2:
                self.by_number(match, found)
            for beat in [*range(30), *chance.sample(range(LAST + 1), 30), LAST]:
                self.assertIs(match.is_unlike(beat), bits[beat])
                self.assertEqual(match.many(beat), sum(bits[:beat + 1]))
                behind = [other for other in found if other >= beat]
                first = match.first(beat)
                if behind:
                    self.assertEqual(first, behind[0])
                elif first is not None:
                    self.assertGreater(first, LAST)
                    self.assertIs(sounds_unlike(handed, lag, first), True)
            self.by_number(match, found)

    def by_number(self, match, found):
        for number, beat in enumerate(found):
            self.assertEqual(match.unlike(number), beat)

    def test_twenty_of_each(self):
        for chance in chances(12, 701):
            choir = rising_choir(chance, None, 2, 2) if chance.random() < 0.5 else made_choir(chance, None, 2, 2)
            one = made_song(chance, choir, 60, 20, 20)
            other = made_song(chance, choir, 60, 20, 20)
            ear = made_ear(chance, choir, 2)
            lag = chance.choice([0, 3, 30])
            bits = slow_bits((one, ear, other, ear), lag, LAST)
            match = Match(one, ear, other, ear, lag=lag)
            for beat in range(LAST + 1):
                self.assertEqual(match.many(beat), sum(bits[:beat + 1]))
                self.assertIs(match.is_unlike(beat), bits[beat])
            self.by_number(match, [beat for beat in range(LAST + 1) if bits[beat]])

    def test_far_ones_follow_one_another(self):
        for chance, handed, lag in made_matches(50, 702, 10 ** 18):
            match = Match(*handed, lag=lag)
            near = [beat for beat, _ in handed[0].roots()] + [max(beat - lag, 0) for beat, _ in handed[2].roots()]
            for far in chance.sample(FAR + near, 4):
                for beat in range(max(far - 2, 1), far + 3):
                    unlike = sounds_unlike(handed, lag, beat)
                    self.assertIs(match.is_unlike(beat), unlike)
                    self.assertEqual(match.many(beat) - match.many(beat - 1), int(unlike))
                    if unlike:
                        self.assertEqual(match.unlike(match.many(beat) - 1), beat if beat <= 10 ** 40 else None)
                        self.assertEqual(match.first(beat), beat)
                first = match.first(far)
                if first is None:
                    self.assertEqual(match.many(10 ** 80), match.many(far) - int(match.is_unlike(far)))
                else:
                    self.assertIs(sounds_unlike(handed, lag, first), True)
                    self.assertEqual(match.many(first), match.many(far) - int(match.is_unlike(far)) + 1)

    def test_the_very_song_on_both_sides(self):
        for chance in chances(30, 703):
            song = made_song(chance, None, 60)
            ear = made_ear(chance, song.choir(), 2)
            match = Match(song, ear, song, ear)
            self.assertEqual((match.many(10 ** 40), match.unlike(0), match.first(0)), (0, None, None))
            self.assertEqual(match.last(), ("alike",))

    def test_the_last_beat_is_10_to_the_40th(self):
        match = Match(Song(HELD, (0,), cues=[(9, "a", 0)]), EAR, Song(LEFT, (0,)), EAR)
        self.assertEqual((match.many(0), match.many(1), match.many(10 ** 40)), (0, 1, 10 ** 40))
        self.assertEqual(match.unlike(10 ** 40 - 1), 10 ** 40)
        self.assertIsNone(match.unlike(10 ** 40))
        self.assertIsNone(match.unlike(10 ** 100))
        self.assertEqual(match.first(10 ** 40 + 1), 10 ** 40 + 1)
        self.assertEqual(match.first(10 ** 90), 10 ** 90)

    def test_a_cue_at_beat_0(self):
        one = Song(HELD, (0,), cues=[(0, "a", 1)], breaths=[3])
        match = Match(one, EAR, Song(HELD, (0,)), EAR)
        self.assertEqual([match.many(beat) for beat in range(5)], [1, 2, 3, 4, 5])
        self.assertEqual(Match(one, EAR, Song(HELD, (1,)), EAR).last(), ("alike",))


class Last(unittest.TestCase):
    def test_alike_a_last_one_or_figures(self):
        told = {"alike": 0, "last": 0, "again": 0}
        for _, handed, lag in made_matches(300, 710):
            match = Match(*handed, lag=lag)
            last = match.last()
            self.assertIs(type(last), tuple)
            told[last[0]] += 1
            if last[0] == "alike":
                self.assertEqual(last, ("alike",))
                self.assertIsNone(match.first(0))
                self.assertEqual(match.many(10 ** 40), 0)
            elif last[0] == "last":
                self.assertIs(sounds_unlike(handed, lag, last[1]), True)
                self.assertIsNone(match.first(last[1] + 1))
                self.assertEqual(match.many(10 ** 40), match.many(last[1]))
            else:
                self.again(handed, lag, last)
        self.assertGreater(min(told.values()), 20)

    def again(self, handed, lag, last):
        self.assertEqual(len(last), 5)
        begin, one, other, behind = parts(handed, lag)[-1]
        self.assertEqual(last[1], begin)
        # The last part's duo takes the figures, in the order of its two runs.
        self.assertIs(Duo(one, other, lag=behind).is_again(*last[2:]), True)
        for times in range(3):
            wait = number_of(last[2] + last[3] * times + last[4], one.choir().pace())
            self.assertIs(sounds_unlike(handed, lag, begin + wait), True)

    def test_the_last_one_stands_in_any_part(self):
        # Held notes, by cues unlike at beats 2 and 5 alone, and a breath behind.
        one = Song(HELD, (0,), cues=[(2, "a", 1), (3, "a", 0), (5, "a", 1), (6, "a", 0)], breaths=[20])
        other = Song(HELD, (0,))
        self.assertEqual(Match(one, EAR, other, EAR).last(), ("last", 5))
        self.assertEqual(Match(other, EAR, one, EAR).last(), ("last", 5))
        self.assertEqual(Match(other, EAR, one, EAR, lag=4).last(), ("last", 1))
        self.assertEqual(Match(other, EAR, one, EAR, lag=6).last(), ("alike",))
        self.assertEqual(Match(other, EAR, one, EAR, lag=10 ** 18).last(), ("alike",))
        self.assertEqual(Match(one, EAR, other, EAR, lag=10 ** 18).last(), ("last", 5))
        self.assertEqual(Match(one, EAR, one.without(6, "a"), EAR).last()[:2], ("again", 20))

    def test_told_lists_are_the_askers_own(self):
        for _, handed, lag in made_matches(40, 711):
            match = Match(*handed, lag=lag)
            last = match.last()
            kept = repr(last)
            for part in last[1:]:
                if isinstance(part, list):
                    part.append(9)
            self.assertEqual(repr(match.last()), kept)


class Refused(unittest.TestCase):
    def refused(self, kind, *handed, **more):
        with self.assertRaises(SongError) as told:
            Match(*handed, **more)
        self.assertIs(type(told.exception), kind)
        return told.exception

    def test_unlike_comes_ahead(self):
        for chance in chances(30, 712):
            one = made_song(chance, None, 20)
            ear = made_ear(chance, one.choir(), 2)
            pace = chance.choice([pace for pace in (2, 3, 4) if pace != one.choir().pace()])
            other = made_song(chance, made_choir(chance, pace), 20)
            other_ear = made_ear(chance, other.choir(), 2)
            for most in (1, 400):
                self.refused(Unlike, one, ear, other, other_ear, most=most)
                self.refused(Unlike, other, other_ear, one, ear, lag=7, most=most)
                self.refused(Unlike, one, ear, one, ear[:1], most=most)
                self.refused(Unlike, one, ear[:1], one, ear, lag=10 ** 18, most=most)

    def test_where_one_of_the_duos_is(self):
        for _, handed, lag in made_matches(60, 713):
            most = 1
            for _, one, other, behind in parts(handed, lag):
                duo = Duo(one, other, lag=behind)
                levels = 0
                while one.choir().pace() ** levels <= behind:
                    levels += 1
                most = max([most] + [len(duo.triples(level)) for level in range(levels + 1)])
            self.assertIs(type(Match(*handed, lag=lag, most=most)), Match)
            if most > 1:
                self.assertEqual(self.refused(TooMany, *handed, lag=lag, most=most - 1).most, most - 1)
                self.assertEqual(self.refused(TooMany, *handed, lag=lag, most=1).most, 1)


class ByTurns(unittest.TestCase):
    def test_two_matches_of_the_very_songs(self):
        asked = [
            lambda match: match.last(), lambda match: match.many(10 ** 18), lambda match: match.unlike(5),
            lambda match: match.first(10), lambda match: match.is_unlike(7), lambda match: match.many(33),
        ]
        for chance, handed, lag in made_matches(40, 714):
            one, ear, other, other_ear = handed
            deaf = [(name, (0,) * len(sounds)) for name, sounds in ear]
            made = [(handed, lag), (handed, 0), ((one, deaf, other, other_ear), lag), ((other, other_ear, one, ear), 1)]
            try:
                matches = [Match(*parts, lag=late) for parts, late in made]
                first = [[repr(ask(Match(*parts, lag=late))) for ask in asked] for parts, late in made]
            except TooMany:
                continue
            for _ in range(40):
                at = chance.randrange(len(made))
                place = chance.randrange(len(asked))
                self.assertEqual(repr(asked[place](matches[at])), first[at][place])

    def test_an_ear_changed_behind_the_call(self):
        ear = list(EAR)
        match = Match(Song(HELD, (0,)), ear, Song(LEFT, (0,)), ear)
        ear[0] = ("a", (3, 3))
        self.assertEqual((match.is_unlike(1), match.many(9), match.first(0)), (True, 9, 1))
        self.assertEqual(match.last()[0], "again")
        self.assertEqual(ear, [("a", (3, 3))])
        self.assertEqual(Match(Song(HELD, (0,)), ear, Song(LEFT, (0,)), ear).last(), ("alike",))
        ear.clear()
        self.assertEqual((match.is_unlike(1), match.many(9), match.first(0)), (True, 9, 1))


class Beginnings(unittest.TestCase):
    def test_a_song_behind_a_cue_is_the_song_that_begins_there(self):
        # [8]: from a root beat on the song is the one that begins with what is sung there.
        for chance in chances(40, 715):
            song = made_song(chance, rising_choir(chance, None, None, 2), 40)
            ear = made_ear(chance, song.choir(), 2)
            for beat, _ in song.roots():
                later = song.from_root(beat)
                try:
                    match = Match(later, ear, song, ear, lag=beat)
                except TooMany:
                    continue
                self.assertEqual(match.last(), ("alike",))

    def test_what_is_ahead_of_a_cue_stays(self):
        for chance in chances(40, 716):
            choir = made_choir(chance, None, None, 2)
            song = Song(choir, made_standing(chance, choir), breaths=[5])
            ear = made_ear(chance, choir, 2)
            beat = chance.choice([6, 40, 10 ** 18])
            name = chance.choice(choir.names())
            cued = song.with_cue(beat, name, chance.randrange(choir.notes()))
            try:
                match = Match(cued, ear, song, ear)
            except TooMany:
                continue
            self.assertEqual(match.many(beat - 1), 0)
            first = match.first(0)
            self.assertTrue(first is None or first >= beat)


if __name__ == "__main__":
    unittest.main()
