"""Promises 41 and 42: the hits of a song, how many, which ones, and turns that show that they never end."""

import unittest

from halfpace.choirs import Choir
from halfpace.hits import all_hits, first_hit, hit, hits, is_turn, turn_of
from halfpace.songs import Song
from tests.slow import (
    ODD, Sung, all_standings, between, chances, far_enough, has_it, made_chord, made_choir, made_cues, made_song,
    made_standing, many_between, rising_choir, slow_behind, slow_led, spoilt,
)

LAST = 250
FAR = [10 ** 18 - 1, 10 ** 18, 10 ** 18 + 1, 2 ** 61, 10 ** 40 - 1, 10 ** 40, 10 ** 40 + 1, 10 ** 80]
HELD = Choir(2, 2, [("a", ("a", "a"), ((0, 1), (0, 1)))])
TURNED = Choir(2, 2, [("a", ("a", "a"), ((0, 1), (1, 0)))])
LEFT = Choir(2, 2, [("a", ("a", "a"), ((1, 1), (1, 1)))])


def songs(many, seed):
    """Songs of all kinds: cues and breaths near one another, at beat 0, forty of each, and none."""
    for place, chance in enumerate(chances(many, seed)):
        choir = rising_choir(chance) if place % 3 == 0 else made_choir(chance)
        if place % 4 == 0:
            yield chance, made_song(chance, choir, 3)
        elif place % 4 == 1:
            yield chance, made_song(chance, choir, chance.choice([60, 200]), 40, 40)
        elif place % 4 == 2:
            yield chance, made_song(chance, choir, 40)
        else:
            yield chance, Song(choir, made_standing(chance, choir))


def far_song(chance, choir):
    """A song with cues and breaths near and far."""
    cues = made_cues(chance, choir, 4, 30) + made_cues(chance, choir, 3, 10 ** 18)
    return Song(choir, made_standing(chance, choir), cues=cues, breaths=chance.sample(range(10 ** 18), 3))


def slow_hits(song, chord, upto):
    """How many hits there are to a far beat, told by blocks."""
    many = 0
    roots = song.roots()
    for (beat, root), after in zip(roots, [beat for beat, _ in roots[1:]] + [upto + 1]):
        many += many_between(song.choir(), root, chord, 0, min(after, upto + 1) - 1 - beat)
    return many


def a_note(choir, note=0):
    return [(choir.names()[0], note)]


class Hits(unittest.TestCase):
    def test_against_a_walk(self):
        for chance, song in songs(60, 410):
            walk = Sung(song, LAST)
            choir = song.choir()
            for many in sorted({0, 1, len(choir), chance.randint(0, len(choir))}):
                chord = made_chord(chance, choir, many)
                found = [beat for beat in range(LAST + 1) if has_it(choir, walk.standings[beat], chord)]
                for beat in [*range(12), *chance.sample(range(12, LAST), 12), LAST]:
                    self.assertEqual(hits(song, chord, beat), sum(other <= beat for other in found))
                for number in [0, 1, 2, len(found) // 2, len(found) - 1]:
                    if 0 <= number < len(found):
                        self.assertEqual(hit(song, chord, number), found[number])
                for start in [*range(6), *chance.sample(range(LAST), 8), LAST]:
                    expected = next((beat for beat in found if beat >= start), None)
                    told = first_hit(song, chord, start)
                    if expected is not None:
                        self.assertEqual(told, expected)
                    else:
                        self.assertTrue(told is None or told > LAST)

    def test_ahead_of_at_and_behind_each_root(self):
        for chance, song in songs(20, 411):
            walk = Sung(song, LAST)
            chord = made_chord(chance, song.choir(), 1)
            found = [beat for beat in range(LAST + 1) if has_it(song.choir(), walk.standings[beat], chord)]
            for beat, _ in song.roots():
                for near in (beat - 1, beat, beat + 1):
                    if near >= 0:
                        self.assertEqual(hits(song, chord, near), sum(other <= near for other in found))
                        after = [other for other in found if other >= near]
                        if after:
                            self.assertEqual(first_hit(song, chord, near), after[0])

    def test_every_beat_is_a_hit_of_the_chord_of_no_name(self):
        for chance, song in songs(12, 412):
            for beat in [0, 1, 7, *FAR]:
                self.assertEqual(hits(song, [], beat), beat + 1)
                self.assertEqual(first_hit(song, [], beat), beat)
                self.assertEqual(hit(song, [], beat), beat if beat <= 10 ** 40 else None)
            self.assertIsNone(all_hits(song, []))

    def test_the_notes_of_one_voice_share_all_beats(self):
        for chance, song in songs(24, 413):
            choir = song.choir()
            name = chance.choice(choir.names())
            for beat in chance.sample(FAR, 3):
                told = [hits(song, [(name, note)], beat) for note in range(choir.notes())]
                self.assertTrue(all(type(many) is int for many in told))
                self.assertEqual(sum(told), beat + 1)

    def test_far_counts_by_blocks(self):
        for chance in chances(24, 414):
            song = far_song(chance, made_choir(chance))
            chord = made_chord(chance, song.choir())
            for beat in [chance.choice(FAR), chance.choice(song.roots())[0], chance.randint(0, 10 ** 18)]:
                self.assertEqual(hits(song, chord, beat), slow_hits(song, chord, beat))

    def test_the_count_grows_by_one_just_at_hits(self):
        for chance in chances(16, 415):
            song = far_song(chance, made_choir(chance))
            chord = made_chord(chance, song.choir(), 1)
            beats = [chance.choice(FAR), chance.randint(0, 10 ** 18), chance.choice(song.roots())[0]]
            for beat in beats:
                for near in range(max(beat - 2, 1), beat + 4):
                    more = hits(song, chord, near) - hits(song, chord, near - 1)
                    self.assertEqual(more, int(has_it(song.choir(), song.standing(near), chord)))

    def test_the_hit_of_a_number_has_that_many_hits_ahead(self):
        nones = 0
        for chance in chances(40, 416):
            song = far_song(chance, rising_choir(chance) if chance.random() < 0.3 else made_choir(chance))
            chord = made_chord(chance, song.choir())
            for number in (0, 1, 2, 17, chance.randrange(10 ** 18), chance.randrange(10 ** 40)):
                told = hit(song, chord, number)
                if told is None:
                    nones += 1
                    self.assertLessEqual(hits(song, chord, 10 ** 40), number)
                else:
                    self.assertTrue(has_it(song.choir(), song.standing(told), chord))
                    self.assertEqual(hits(song, chord, told), number + 1)
                    self.assertEqual(hits(song, chord, told - 1) if told else 0, number)
        self.assertGreater(nones, 20)

    def test_to_10_to_the_40_that_one_too(self):
        song = Song(HELD, (1,))
        self.assertEqual(hit(song, [("a", 1)], 10 ** 40), 10 ** 40)
        self.assertEqual(hit(song, [("a", 1)], 10 ** 40 - 1), 10 ** 40 - 1)
        self.assertIsNone(hit(song, [("a", 1)], 10 ** 40 + 1))
        self.assertIsNone(hit(song, [("a", 1)], 10 ** 80))
        self.assertIsNone(hit(song, [("a", 0)], 0))
        for chance in chances(12, 417):
            song = far_song(chance, made_choir(chance))
            chord = list(zip(song.choir().names(), song.standing(10 ** 40)))
            many = hits(song, chord, 10 ** 40)
            self.assertEqual(hit(song, chord, many - 1), 10 ** 40)
            self.assertIsNone(hit(song, chord, many))

    def test_hits_end_at_the_last_root(self):
        song = Song(LEFT, (0,), cues=[(10, "a", 0), (10 ** 18, "a", 0)])
        for beat, many in ((0, 1), (9, 1), (10, 2), (11, 2), (10 ** 18 - 1, 2), (10 ** 18, 3), (10 ** 40, 3)):
            self.assertEqual(hits(song, [("a", 0)], beat), many)
        self.assertEqual([hit(song, [("a", 0)], number) for number in range(4)], [0, 10, 10 ** 18, None])
        self.assertEqual([first_hit(song, [("a", 0)], start) for start in (0, 1, 10, 11)], [0, 10, 10, 10 ** 18])
        self.assertEqual(first_hit(song, [("a", 0)], 10 ** 18), 10 ** 18)
        self.assertIsNone(first_hit(song, [("a", 0)], 10 ** 18 + 1))
        self.assertEqual(all_hits(song, [("a", 0)]), 3)
        self.assertIsNone(all_hits(song, [("a", 1)]))


class FirstHit(unittest.TestCase):
    def check(self, song, chord, start):
        told = first_hit(song, chord, start)
        choir = song.choir()
        last = max(far_enough(choir, start), 10 ** 19) if told is None else told - 1
        if told is not None:
            self.assertGreaterEqual(told, start)
            self.assertTrue(has_it(choir, song.standing(told), chord))
        roots = song.roots()
        for (beat, root), after in zip(roots, [beat for beat, _ in roots[1:]] + [last + 1]):
            first = max(start - beat, 0)
            end = min(after - 1, last) - beat
            if first <= end:
                seen = between(choir, root, first, end)
                self.assertFalse(any(has_it(choir, standing, chord) for standing in seen))
        return told

    def test_far(self):
        nones = 0
        for chance in chances(60, 418):
            choir = rising_choir(chance) if chance.random() < 0.5 else made_choir(chance)
            song = chance.choice([far_song(chance, choir), made_song(chance, choir)])
            chord = made_chord(chance, choir)
            for start in [0, chance.choice(song.roots())[0], chance.choice(FAR), chance.randrange(10 ** 18)]:
                nones += self.check(song, chord, start) is None
        self.assertGreater(nones, 30)

    def test_it_may_lie_beyond_10_to_the_40(self):
        # The note is 1 behind a wait of one 1 and else noughts, so at each power of 2 alone.
        choir = Choir(2, 3, [("a", ("a", "a"), ((0, 1, 2), (1, 2, 2)))])
        song = Song(choir, (0,))
        power = 1
        while power <= 10 ** 40:
            power = power * 2
        self.assertEqual(first_hit(song, [("a", 1)], 10 ** 40), power)
        self.assertEqual(first_hit(song, [("a", 1)], power + 1), power * 2)
        self.assertIsNone(hit(song, [("a", 1)], 133))
        self.assertEqual(hit(song, [("a", 1)], 132), power // 2)
        self.assertEqual(hits(song, [("a", 1)], power), 134)


def never_end(song, chord):
    """Whether hits never end: what comes on a circle behind the last root leads to the chord."""
    choir = song.choir()
    root = song.roots()[-1][1]
    rests = range(choir.pace())

    def reach(standings):
        found = set()
        waiting = list(standings)
        while waiting:
            standing = waiting.pop()
            if standing not in found:
                found.add(standing)
                waiting += [slow_led(choir, standing, rest) for rest in rests]
        return found

    for standing in reach([slow_led(choir, root, rest) for rest in rests[1:]]):
        behind = reach([slow_led(choir, standing, rest) for rest in rests])
        if standing in behind and any(has_it(choir, other, chord) for other in behind):
            return True
    return False


def shows(song, chord, thing):
    """What [42] asks for of a turn, word by word."""
    choir = song.choir()
    root = song.roots()[-1][1]
    if type(thing) is not tuple or len(thing) != 3 or not all(type(part) is list for part in thing):
        return False
    if not all(type(rest) is int and 0 <= rest < choir.pace() for part in thing for rest in part):
        return False
    lead, turn, tail = thing
    if lead == [] or lead[0] == 0 or turn == []:
        return False

    def number(figures):
        return sum(rest * choir.pace() ** place for place, rest in enumerate(reversed(figures)))

    if slow_behind(choir, root, number(lead)) != slow_behind(choir, root, number(lead + turn)):
        return False
    return has_it(choir, slow_behind(choir, root, number(lead + tail)), chord)


class AllHits(unittest.TestCase):
    def test_as_many_as_at_a_far_beat_where_they_end(self):
        ends = 0
        for chance, song in [*songs(120, 420), *[(c, far_song(c, rising_choir(c))) for c in chances(40, 421)]]:
            chord = made_chord(chance, song.choir(), chance.choice([1, len(song.choir())]))
            told = all_hits(song, chord)
            self.assertEqual(told is None, never_end(song, chord))
            if told is not None:
                ends += 1
                self.assertIs(type(told), int)
                far = max(far_enough(song.choir(), 1), 10 ** 20)
                self.assertEqual(told, slow_hits(song, chord, far))
                self.assertIsNone(first_hit(song, chord, far))
                self.assertIsNone(turn_of(song, chord))
                if told:
                    self.assertEqual(hits(song, chord, hit(song, chord, told - 1)), told)
        self.assertGreater(ends, 40)

    def test_they_may_end_late(self):
        # Each rest that is not 0 lets a note rise; the hits of the last but one are many and end.
        song = Song(Choir(2, 5, [("a", ("a", "a"), ((1, 2, 3, 4, 4), (2, 3, 4, 4, 4)))]), (0,))
        walk = Sung(song, 200)
        for note in range(4):
            found = [beat for beat, standing in enumerate(walk.standings) if standing == (note,)]
            self.assertEqual(all_hits(song, [("a", note)]), len(found))
            self.assertEqual([hit(song, [("a", note)], number) for number in range(len(found))], found)
            self.assertIsNone(hit(song, [("a", note)], len(found)))
        self.assertIsNone(all_hits(song, [("a", 4)]))

    def test_the_last_root_alone_tells_whether_they_end(self):
        song = Song(HELD, (1,), cues=[(7, "a", 0)])
        self.assertEqual(all_hits(song, [("a", 1)]), 7)
        self.assertIsNone(all_hits(song, [("a", 0)]))
        self.assertIsNone(turn_of(song, [("a", 1)]))
        self.assertIsNotNone(turn_of(song, [("a", 0)]))

    def test_the_last_root_itself_may_be_the_last_hit(self):
        song = Song(LEFT, (0,))
        self.assertEqual(all_hits(song, [("a", 0)]), 1)
        self.assertEqual(all_hits(song.with_breath(5), [("a", 0)]), 1)
        self.assertEqual(all_hits(song.with_cue(5, "a", 0), [("a", 0)]), 2)


class Turns(unittest.TestCase):
    def turns(self, many, seed):
        for chance, song in songs(many, seed):
            chord = made_chord(chance, song.choir(), chance.choice([0, 1, len(song.choir())]))
            told = turn_of(song, chord)
            if told is not None:
                yield chance, song, chord, told

    def test_a_told_turn_shows_it_and_leads_to_hits(self):
        for chance, song, chord, told in self.turns(120, 422):
            self.assertIs(type(told), tuple)
            self.assertIs(shows(song, chord, told), True)
            self.assertIs(is_turn(song, chord, told), True)
            choir = song.choir()
            lead, turn, tail = told
            beats = []
            for often in (0, 1, 2, 3, 50):
                wait = 0
                for rest in lead + turn * often + tail:
                    wait = wait * choir.pace() + rest
                beats.append(song.roots()[-1][0] + wait)
                self.assertTrue(has_it(choir, song.standing(beats[-1]), chord))
                self.assertEqual(first_hit(song, chord, beats[-1]), beats[-1])
            self.assertEqual(beats, sorted(set(beats)))

    def check(self, song, chord, thing):
        told = is_turn(song, chord, thing)
        self.assertIs(told, shows(song, chord, thing), repr(thing)[:300])
        return told

    def test_spoilt_turns(self):
        for chance, song, chord, told in self.turns(60, 423):
            for thing in spoilt(told):
                self.check(song, chord, thing)
            pace = song.choir().pace()
            for place, part in enumerate(told):
                for at in range(len(part) + 1):
                    others = [part[:at] + [rest] + part[at:] for rest in range(-1, pace + 1)]
                    others += [part[:at] + [rest] + part[at + 1:] for rest in range(pace)] + [part[:at], part[at:]]
                    others += [part[:at] + part[at + 1:], [0] + part, part + part, part[::-1], tuple(part)]
                    for other in others:
                        self.check(song, chord, (*told[:place], other, *told[place + 1:]))
            lead, turn, tail = told
            self.assertIs(self.check(song, chord, (lead, [], tail)), False)
            self.assertIs(self.check(song, chord, ([], turn, tail)), False)
            self.assertIs(self.check(song, chord, ([0] + lead, turn, tail)), False)
            self.assertIs(self.check(song, chord, [lead, turn, tail]), False)
            self.assertIs(self.check(song, chord, (lead, turn)), False)
            self.assertIs(self.check(song, chord, (lead, turn, tail, tail)), False)
            self.assertIs(self.check(song, chord, (lead, turn * 3, tail)), True)
            self.assertIs(self.check(song, chord, (lead + turn, turn, tail)), True)

    def test_of_songs_whose_hits_end_there_is_none(self):
        song = Song(LEFT, (0,), cues=[(10, "a", 0)])
        for lead in ([1], [1, 0], [1, 1], [0, 1], []):
            for turn in ([0], [1], [1, 0], []):
                for tail in ([], [0], [1]):
                    self.assertIs(self.check(song, [("a", 0)], (lead, turn, tail)), False)
        self.assertIs(self.check(song, [("a", 1)], ([1], [0], [])), True)

    def test_truths_are_no_rests(self):
        song = Song(HELD, (1,))
        self.assertIs(self.check(song, [("a", 1)], ([1], [0], [])), True)
        self.assertIs(self.check(song, [("a", 1)], ([True], [0], [])), False)
        self.assertIs(self.check(song, [("a", 1)], ([1], [False], [])), False)
        self.assertIs(self.check(song, [("a", 1)], ([1], [0], [True])), False)

    def test_other_things_and_long_turns(self):
        song = Song(HELD, (1,))
        others = [0, ((), (), ()), ("1", "0", ""), ([1], [0]), ([1], [2], []), ([[1]], [0], []), ([1], [-1], [])]
        for thing in ODD + others:
            self.assertIs(self.check(song, [("a", 1)], thing), False)
        self.assertIs(is_turn(song, [("a", 1)], ([1] * 1000, [0] * 1000, [1] * 1900)), True)
        self.assertIs(is_turn(song, [("a", 0)], ([1] * 1000, [0] * 1000, [1] * 1900)), False)

    def test_any_turn_that_shows_it_is_one(self):
        for chance, song in songs(80, 424):
            choir = song.choir()
            chord = made_chord(chance, choir, 1)
            for _ in range(25):
                thing = tuple([chance.randrange(choir.pace()) for _ in range(chance.randint(0, 3))] for _ in range(3))
                self.check(song, chord, thing)


class TheAskersOwn(unittest.TestCase):
    def test_told_turns_are_changed_and_told_again(self):
        for chance, song in songs(40, 430):
            chord = made_chord(chance, song.choir(), 1)
            handed = list(chord)
            told = turn_of(song, chord)
            self.assertEqual(chord, handed)
            if told is None:
                continue
            kept = tuple(list(part) for part in told)
            self.assertEqual(len({id(part) for part in told}), 3)
            for part in told:
                part.append(7)
            self.assertIs(is_turn(song, chord, told), False)
            self.assertEqual(turn_of(song, chord), kept)
            for part in told:
                part.clear()
            self.assertEqual(turn_of(song, chord), kept)

    def test_a_chord_changed_behind_a_call_is_told_anew(self):
        song = Song(TURNED, (0,), cues=[(9, "a", 0)])
        chord = [("a", 0)]
        asks = (
            lambda wished: [hits(song, wished, beat) for beat in (0, 8, 30, 10 ** 18)],
            lambda wished: [hit(song, wished, number) for number in range(9)],
            lambda wished: [first_hit(song, wished, start) for start in range(20)],
            lambda wished: (all_hits(song, wished), turn_of(song, wished)),
        )
        for ask in asks:
            told = []
            fresh = []
            for wished in ([("a", 0)], [("a", 1)], [], [("a", 1)], [("a", 0)]):
                chord[:] = wished
                told.append(ask(chord))
                fresh.append(ask(wished))
            self.assertEqual(told, fresh)
            self.assertEqual(told, told[::-1])
            if ask is not asks[3]:
                self.assertEqual(len({repr(row) for row in told}), 3)

    def test_asking_changes_nothing(self):
        for chance, song in songs(12, 431):
            chord = made_chord(chance, song.choir())
            handed = list(chord)
            kept = (song.cues(), song.breaths(), song.roots())
            thing = ([1], [0], [1])
            hits(song, chord, 99)
            hit(song, chord, 3)
            first_hit(song, chord, 3)
            all_hits(song, chord)
            is_turn(song, chord, thing)
            self.assertEqual(chord, handed)
            self.assertEqual(thing, ([1], [0], [1]))
            self.assertEqual((song.cues(), song.breaths(), song.roots()), kept)
            self.assertEqual(len(all_standings(song.choir())), song.choir().notes() ** len(song.choir()))
