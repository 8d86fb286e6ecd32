"""Promise 43: ladders that show that no hit is at a beat or behind."""

import unittest

from halfpace.choirs import Choir
from halfpace.hits import first_hit, is_ladder, ladder
from halfpace.songs import Song
from tests.slow import (
    ODD, all_standings, between, chances, far_enough, has_it, made_chord, made_choir, made_song, made_standing,
    rising_choir, slow_behind, slow_led, spoilt,
)

LEFT = Choir(2, 2, [("a", ("a", "a"), ((1, 1), (1, 1)))])


class Asked:
    """What [43] asks for of a ladder for a song, a chord and a beat, word by word."""

    def __init__(self, song, chord, start):
        self.choir = song.choir()
        self.pace = self.choir.pace()
        self.chord = chord
        self.last, self.root = song.roots()[-1]
        self.t = start - self.last
        self.many = 0
        while self.pace ** self.many <= self.t:
            self.many += 1
        self.right = {repr(standing) for standing in all_standings(self.choir)}
        self.ways = {(standing, rest): slow_led(self.choir, standing, rest)
                     for standing in all_standings(self.choir) for rest in range(self.pace)}
        self.always = [self.owed(place) for place in range(self.many + 1)]

    def by(self, standing, rests):
        return {self.ways[standing, rest] for rest in rests}

    def by_any(self, row):
        return {led for standing in row for led in self.by(standing, range(self.pace))}

    def owed(self, place):
        """What the list at a place has whatever the lists are."""
        if place == 0:
            return self.by(self.root, range(1, self.pace))
        k = self.many - place
        ahead = slow_behind(self.choir, self.root, self.t // self.pace ** (k + 1))
        return self.by(ahead, range(self.t // self.pace ** k % self.pace + 1, self.pace))

    def is_one(self, thing):
        if type(thing) is not list or len(thing) != self.many + 1 or not all(type(row) is list for row in thing):
            return False
        if not all(repr(standing) in self.right for row in thing for standing in row):
            return False
        for place, row in enumerate(thing):
            ahead = thing[max(place - 1, 0)]
            if not self.always[place] | self.by_any(set(ahead)) <= set(row):
                return False
        final = set(thing[-1]) | {slow_behind(self.choir, self.root, self.t)}
        return not any(has_it(self.choir, standing, self.chord) for standing in final)

    def least(self):
        """The lists with just what they need."""
        rows = [set(self.always[0])]
        while not self.by_any(rows[0]) <= rows[0]:
            rows[0] |= self.by_any(rows[0])
        for place in range(1, self.many + 1):
            rows.append(self.always[place] | self.by_any(rows[-1]))
        return [sorted(row) for row in rows]


def starts(chance, song):
    """Beats at the last root beat, some behind it, far behind it, at powers of the pace and their neighbours."""
    last = song.roots()[-1][0]
    pace = song.choir().pace()
    waits = [0, 1, 2, 3, pace ** 5, pace ** 5 - 1, pace ** 9 + 1, 10 ** 18]
    return [last + wait for wait in [*waits, chance.randint(4, 60), chance.randrange(10 ** 40)]]


def ladders(many, seed):
    for place, chance in enumerate(chances(many, seed)):
        choir = made_choir(chance) if place % 4 == 0 else rising_choir(chance)
        song = made_song(chance, choir, 20) if place % 2 else Song(choir, made_standing(chance, choir))
        chord = made_chord(chance, choir, chance.choice([1, len(choir)]))
        for start in chance.sample(starts(chance, song), 4):
            yield chance, song, chord, start


class Told(unittest.TestCase):
    def test_just_what_the_lists_need_each_sorted(self):
        told_ones = 0
        for _, song, chord, start in ladders(120, 430):
            told = ladder(song, chord, start)
            self.assertEqual(told is None, first_hit(song, chord, start) is not None)
            if told is not None:
                told_ones += 1
                asked = Asked(song, chord, start)
                self.assertIs(type(told), list)
                self.assertTrue(all(type(row) is list for row in told))
                self.assertEqual(told, asked.least())
                self.assertIs(asked.is_one(told), True)
                self.assertIs(is_ladder(song, chord, start, told), True)
        self.assertGreater(told_ones, 100)

    def test_the_last_list_has_all_that_is_sung_behind(self):
        for _, song, chord, start in ladders(80, 431):
            told = ladder(song, chord, start)
            if told is not None:
                last, root = song.roots()[-1]
                seen = between(song.choir(), root, start - last + 1, far_enough(song.choir(), start - last))
                self.assertEqual(told[-1], sorted(seen))

    def test_of_one_list_at_the_last_root_beat(self):
        song = Song(LEFT, (0,))
        self.assertIsNone(ladder(song, [("a", 0)], 0))
        self.assertEqual(ladder(song, [("a", 0)], 1), [[(1,)], [(1,)]])
        self.assertEqual(ladder(song, [("a", 0)], 2), [[(1,)], [(1,)], [(1,)]])
        self.assertEqual(ladder(song, [("a", 0)], 10 ** 18), [[(1,)]] * 61)
        cued = song.with_cue(9, "a", 1)
        self.assertEqual(ladder(cued, [("a", 0)], 9), [[(1,)]])
        self.assertEqual(ladder(cued, [("a", 0)], 10), [[(1,)], [(1,)]])
        self.assertIsNone(ladder(cued, [("a", 1)], 9))

    def test_none_where_the_beat_itself_or_one_behind_is_a_hit(self):
        # The note is 1 at each power of 2 alone, and 2 where more than one figure is 1.
        song = Song(Choir(2, 3, [("a", ("a", "a"), ((0, 1, 2), (1, 2, 2)))]), (0,))
        self.assertEqual(ladder(song, [("a", 0)], 1), [[(1,), (2,)], [(1,), (2,)]])
        self.assertIsNone(ladder(song, [("a", 0)], 0))
        self.assertIsNone(ladder(song, [("a", 1)], 10 ** 40))
        self.assertIsNone(ladder(song, [("a", 2)], 3))
        self.assertIsNone(ladder(song, [("a", 2)], 4))
        self.assertIsNone(ladder(song, [], 4))

    def test_lists_differ_from_level_to_level(self):
        # Behind the wait 1 alone the note is 2, so the lists behind the first have less.
        song = Song(Choir(2, 4, [("a", ("a", "a"), ((1, 2, 3, 3), (2, 3, 3, 3)))]), (0,))
        asked = Asked(song, [("a", 2)], 4)
        told = ladder(song, [("a", 2)], 4)
        self.assertEqual(told, asked.least())
        self.assertGreater(len(told[0]), len(told[-1]))
        self.assertEqual(told, [[(2,), (3,)], [(3,)], [(3,)], [(3,)]])


class Read(unittest.TestCase):
    def check(self, song, chord, start, thing):
        handed = (song, chord, start)
        # Many papers are asked of the same song one behind another.
        if getattr(self, "handed", None) != handed:
            self.handed = handed
            self.asked = Asked(*handed)
        told = is_ladder(song, chord, start, thing)
        self.assertIs(told, self.asked.is_one(thing), repr(thing)[:300])
        return told

    def some(self, many, seed):
        for chance, song, chord, start in ladders(many, seed):
            told = ladder(song, chord, start)
            if told is not None:
                yield chance, song, chord, start, told

    def test_spoilt_by_any_part(self):
        seen = 0
        for chance, song, chord, start, told in self.some(60, 432):
            if len(told) <= 6 and len(song.choir()) <= 3 and len(told[0]) <= 4:
                seen += 1
                for thing in spoilt(told):
                    self.check(song, chord, start, thing)
        self.assertGreater(seen, 10)

    def test_a_standing_out_more_and_twice(self):
        for chance, song, chord, start, told in self.some(50, 433):
            for place in chance.sample(range(len(told)), min(len(told), 5)):
                row = told[place]
                at = chance.randrange(len(row)) if row else 0
                more = chance.choice(all_standings(song.choir()))
                rows = [row[:at] + row[at + 1:], row + [more], [more] + row, row + row, row[::-1], row + row[at:at + 1]]
                for other in rows + [[]]:
                    self.check(song, chord, start, told[:place] + [other] + told[place + 1:])
                # What a list has just so it needs, so it is no ladder without.
                if row:
                    self.assertIs(self.check(song, chord, start, told[:place] + [rows[0]] + told[place + 1:]), False)
                self.assertIs(self.check(song, chord, start, told[:place] + [row + row] + told[place + 1:]), True)
                self.assertIs(self.check(song, chord, start, told[:place] + [row[::-1]] + told[place + 1:]), True)

    def test_a_standing_more_does_no_harm_where_its_ways_stand_behind(self):
        right = 0
        for chance, song, chord, start, told in self.some(60, 434):
            choir = song.choir()
            for standing in chance.sample(all_standings(choir), min(6, len(all_standings(choir)))):
                for place in {0, len(told) - 1, chance.randrange(len(told))}:
                    if standing not in told[place]:
                        thing = [row + [standing] if at == place else row for at, row in enumerate(told)]
                        right += self.check(song, chord, start, thing)
        self.assertGreater(right, 10)

    def test_all_that_never_leads_to_the_chord(self):
        # The greatest ladder: in each list all standings that could stand there.
        for chance, song, chord, start, told in self.some(40, 435):
            choir = song.choir()
            ways = {
                standing: {slow_led(choir, standing, rest) for rest in range(choir.pace())}
                for standing in all_standings(choir)
            }
            rows = [{standing for standing in ways if not has_it(choir, standing, chord)}]
            for _ in range(len(told) - 1):
                rows.insert(0, {standing for standing in ways if ways[standing] <= rows[0]})
            while True:
                kept = {standing for standing in rows[0] if ways[standing] <= rows[0]}
                if kept == rows[0]:
                    break
                rows[0] = kept
            thing = [chance.sample(sorted(row), len(row)) for row in rows]
            self.assertIs(self.check(song, chord, start, thing), True)

    def test_lists_out_twice_and_exchanged(self):
        for chance, song, chord, start, told in self.some(50, 436):
            for place in {0, len(told) - 1, chance.randrange(len(told))}:
                self.assertIs(self.check(song, chord, start, told[:place] + told[place + 1:]), False)
                self.assertIs(self.check(song, chord, start, told[:place + 1] + told[place:]), False)
                if place:
                    exchanged = list(told)
                    exchanged[place - 1:place + 1] = exchanged[place - 1:place + 1][::-1]
                    self.check(song, chord, start, exchanged)
            self.check(song, chord, start, told[::-1])
            self.check(song, chord, start, [told[0]] * len(told))
            self.check(song, chord, start, [told[-1]] * len(told))
            self.check(song, chord, start, [all_standings(song.choir())] * len(told))
            self.check(song, chord, start, [[]] * len(told))

    def test_tuples_for_lists_and_what_is_no_list(self):
        for chance, song, chord, start, told in self.some(20, 437):
            self.assertIs(self.check(song, chord, start, tuple(told)), False)
            self.assertIs(self.check(song, chord, start, [tuple(row) for row in told]), False)
            lists = [[list(standing) for standing in row] for row in told]
            self.assertIs(self.check(song, chord, start, lists), False)
            for thing in ODD + [0, 1, [[]], [None] * len(told), [{}] * len(told), [""] * len(told), [0] * len(told)]:
                self.check(song, chord, start, thing)

    def test_truths_are_no_notes(self):
        song = Song(LEFT, (0,))
        self.assertIs(self.check(song, [("a", 0)], 1, [[(1,)], [(1,)]]), True)
        self.assertIs(self.check(song, [("a", 0)], 1, [[(True,)], [(1,)]]), False)
        self.assertIs(self.check(song, [("a", 0)], 1, [[(1,)], [(1,), (True,)]]), False)
        self.assertIs(self.check(song, [("a", 0)], 1, [[(1,)], [(2,), (1,)]]), False)

    def test_the_beat_itself_must_not_be_a_hit(self):
        song = Song(LEFT, (0,))
        self.assertIs(self.check(song, [("a", 0)], 0, [[(1,)]]), False)
        self.assertIs(self.check(song, [("a", 0)], 1, [[(1,)], [(1,)]]), True)
        self.assertIs(self.check(song, [("a", 0)], 1, [[(1,)]]), False)

    def test_where_there_is_a_hit_nothing_is_a_ladder(self):
        for chance, song, chord, start in ladders(40, 438):
            if first_hit(song, chord, start) is not None:
                asked = Asked(song, chord, start)
                self.assertIs(self.check(song, chord, start, asked.least()), False)
                choir = song.choir()
                without = [standing for standing in all_standings(choir) if not has_it(choir, standing, chord)]
                self.assertIs(self.check(song, chord, start, [without] * (asked.many + 1)), False)
                self.assertIs(self.check(song, chord, start, [[]] * (asked.many + 1)), False)

    def test_a_ladder_of_another_beat(self):
        for chance, song, chord, start, told in self.some(30, 439):
            for other in (start + 1, start + 2, max(start - 1, song.roots()[-1][0]), song.roots()[-1][0]):
                self.check(song, chord, other, told)

    def test_great_papers(self):
        song = Song(LEFT, (0,))
        self.assertIs(is_ladder(song, [("a", 0)], 1, [[(1,)] * 35000, [(1,)] * 35000]), True)
        self.assertIs(is_ladder(song, [("a", 0)], 1, [[(1,)] * 35000, [(1,)] * 35000 + [(0,)]]), False)
        self.assertIs(is_ladder(song, [("a", 0)], 1, [[(1,)]] * 70000), False)
        self.assertIs(is_ladder(song, [("a", 0)], 1, [[]] * 140000), False)


class TheAskersOwn(unittest.TestCase):
    def test_told_ladders_are_changed_at_all_depths_and_told_again(self):
        for _, song, chord, start in ladders(60, 440):
            handed = list(chord)
            told = ladder(song, chord, start)
            self.assertEqual(chord, handed)
            if told is None:
                continue
            self.assertEqual(len({id(row) for row in told}), len(told))
            kept = [list(row) for row in told]
            self.assertIs(is_ladder(song, chord, start, told), True)
            self.assertEqual(told, kept)
            for row in told:
                row.append(None)
            self.assertIs(is_ladder(song, chord, start, told), False)
            self.assertEqual(ladder(song, chord, start), kept)
            told.clear()
            self.assertIs(is_ladder(song, chord, start, told), False)
            self.assertEqual(ladder(song, chord, start), kept)

    def test_a_chord_or_ladder_changed_behind_a_call(self):
        song = Song(LEFT, (0,))
        chord = [("a", 0)]
        paper = [[(1,)], [(1,)]]
        self.assertIs(is_ladder(song, chord, 1, paper), True)
        chord[0] = ("a", 1)
        self.assertIs(is_ladder(song, chord, 1, paper), False)
        self.assertIsNone(ladder(song, chord, 1))
        chord[0] = ("a", 0)
        self.assertEqual(ladder(song, chord, 1), paper)
        paper[1].append((0,))
        self.assertIs(is_ladder(song, chord, 1, paper), False)
        paper[1].pop()
        self.assertIs(is_ladder(song, chord, 1, paper), True)
