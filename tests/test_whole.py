"""Promises 1 to 8 over the whole program: all files tell alike what is sung, and tell it anew each time."""

import unittest

from halfpace.books import Book
from halfpace.choirs import Choir, beside, renamed
from halfpace.chords import has
from halfpace.duos import Duo
from halfpace.ears import Run
from halfpace.errors import SongError, TooMany
from halfpace.hands import are_pairs, is_parting, told_apart
from halfpace.hearsay import agree_many, bar, is_bar, left
from halfpace.hits import all_hits, first_hit, hit, hits, is_ladder, is_turn, ladder, turn_of
from halfpace.matches import Match, canon, healing, is_idle
from halfpace.partings import are_partings, partings
from halfpace.roads import road, road_table
from halfpace.songs import Song
from halfpace.texts import read_choir, read_song, show_choir, show_song
from halfpace.waits import are_waits, wait_for, waits
from halfpace.wishes import are_prices, prices, soonest, soonest_row
from tests.slow import (
    Sung, chances, made_choir, made_chord, made_cues, made_ear, made_hand, made_song, made_standing, rising_choir,
    slow_heard,
)

FAR = [10 ** 18, 10 ** 18 + 1, 10 ** 40, 10 ** 60 + 7]


def songs(many, seed, voices=2):
    for place, chance in enumerate(chances(many, seed)):
        made = rising_choir if place % 2 else made_choir
        choir = made(chance, None, chance.randint(2, 3), chance.randint(1, voices))
        yield chance, made_song(chance, choir, chance.choice([6, 50]))


def by_road(song, beat, name):
    """What a voice sings at a beat, by the source of its road and the road's table."""
    source = road(song, beat, name)[-1]
    cued = {cue[:2]: cue[2] for cue in song.cues()}
    note = cued[source] if source in cued else song.first()[song.choir().names().index(source[1])]
    return road_table(song, beat, name)[note]


def by_book(song):
    """The song as a book's, its cues and breaths put one behind another, the last first."""
    book = Book(Song(song.choir(), song.first()))
    for beat, name, note in reversed(song.cues()):
        book.put(beat, name, note)
    for beat in reversed(song.breaths()):
        book.breathe(beat)
    book.breathe(10 ** 18 - 1)
    book.back()
    return book.song()


class ToldAlike(unittest.TestCase):
    def test_what_is_sung_at_a_beat(self):
        for chance, song in songs(60, 1):
            choir = song.choir()
            names = choir.names()
            walk = Sung(song, 90).standings
            made = [read_song(show_song(song)), by_book(song), Song(choir, song.first(), cues=tuple(song.cues()),
                                                                    breaths=tuple(song.breaths()))]
            for beat in chance.sample(range(91), 12) + FAR:
                standing = song.standing(beat)
                if beat <= 90:
                    self.assertEqual(standing, walk[beat])
                self.assertEqual(tuple(song.note(beat, name) for name in names), standing)
                self.assertEqual(tuple(by_road(song, beat, name) for name in names), standing)
                for other in made:
                    self.assertEqual(other.standing(beat), standing)
                last, root = [part for part in song.roots() if part[0] <= beat][-1]
                self.assertEqual(song.from_root(last).standing(beat - last), standing)
                ear = made_ear(chance, choir, 2)
                self.assertEqual(Run(choir, root, ear).sounds(beat - last), slow_heard(choir, standing, ear))
                chord = list(zip(names, standing))
                self.assertEqual(first_hit(song, chord, beat), beat)
                self.assertEqual(wait_for(choir, root, beat - last, chord), beat - last)
                self.assertIs(has(choir, standing, chord), True)
                self.assertEqual(soonest(choir, root, beat - last, chord, [[]], 1), [0, 0])

    def test_a_song_from_a_root_beat_on(self):
        for chance, song in songs(40, 2):
            for beat, standing in song.roots():
                later = song.from_root(beat)
                self.assertEqual(later.first(), standing)
                self.assertEqual(later.choir(), song.choir())
                for wait in [*range(30), *FAR]:
                    self.assertEqual(later.standing(wait), song.standing(beat + wait))
                self.assertEqual(read_song(show_song(later)), later)

    def test_songs_beside_one_another(self):
        # [8]: the cues of both, of songs whose cues and breaths stand at the same beats.
        for chance in chances(30, 3):
            one = made_choir(chance, 2, 2, chance.randint(1, 2))
            other = made_choir(chance, 2, 2, chance.randint(1, 2))
            other = renamed(other, {name: "x" + name[:4] for name in other.names()})
            both = beside(one, other)
            beats = sorted(chance.sample(range(40), 3))
            songs_of = []
            for choir in (one, other):
                cues = [(beat, chance.choice(choir.names()), chance.randrange(2)) for beat in beats]
                songs_of.append(Song(choir, made_standing(chance, choir), cues=cues))
            firsts = dict(zip(one.names() + other.names(), songs_of[0].first() + songs_of[1].first()))
            song = Song(both, tuple(firsts[name] for name in both.names()),
                        cues=songs_of[0].cues() + songs_of[1].cues())
            for beat in [*range(60), *FAR]:
                sung = dict(zip(both.names(), song.standing(beat)))
                for part in songs_of:
                    told = tuple(sung[name] for name in part.choir().names())
                    self.assertEqual(told, part.standing(beat))

    def test_the_order_in_which_cues_came_does_not_matter(self):
        for chance, song in songs(40, 4):
            plain = Song(song.choir(), song.first())
            deeds = [("put", *cue) for cue in song.cues()] + [("breathe", beat) for beat in song.breaths()]
            told = Book(plain).tried(chance.sample(deeds, len(deeds)))
            self.assertEqual(told, song)
            more = made_cues(chance, song.choir(), 1, 10 ** 9)[0]
            if more[:2] not in [cue[:2] for cue in song.cues()]:
                self.assertEqual(song.with_cue(*more).without(*more[:2]), song)
                self.assertEqual(song.with_cue(*more).without(*more[:2]).standing(10 ** 30), song.standing(10 ** 30))

    def test_hits_and_duos_count_alike(self):
        # A chord is had just where an ear that hears it alone hears otherwise than a deaf one.
        for chance, song in songs(60, 5):
            choir = song.choir()
            name = chance.choice(choir.names())
            note = chance.randrange(choir.notes())
            ear = [(name, tuple(int(other == note) for other in range(choir.notes())))]
            deaf = [(name, (0,) * choir.notes())]
            chord = [(name, note)]
            try:
                match = Match(song, ear, song, deaf)
            except TooMany:
                continue
            for beat in [*range(0, 70, 7), *FAR]:
                self.assertEqual(match.many(beat), hits(song, chord, beat))
                self.assertEqual(match.first(beat), first_hit(song, chord, beat))
            for number in (0, 1, 5, 40, 10 ** 17):
                self.assertEqual(match.unlike(number), hit(song, chord, number))
            last = match.last()
            self.assertEqual(last[0] == "again", all_hits(song, chord) is None)
            if last[0] == "again":
                self.assertIs(is_turn(song, chord, last[2:]), True)
            elif last[0] == "last":
                self.assertEqual(hits(song, chord, last[1]), all_hits(song, chord))

    def test_heard_is_what_is_sung(self):
        for chance, song in songs(40, 6, 3):
            beats = [chance.randint(0, 60) for _ in range(5)] + FAR[:2]
            heard = [(beat, name, song.note(beat, name)) for beat in beats for name in song.choir().names()][:60]
            told = left(song, heard)
            self.assertGreater(agree_many(song, heard), 0)
            cued = [cue[1] for cue in song.cues() if cue[0] == 0]
            for name, note, row in zip(song.choir().names(), song.first(), told):
                self.assertTrue(note in row or name in cued)
            self.assertIsNone(bar(song, heard))


def asked(chance, choir, song):
    """Questions of all files, each a name, what is called, and what is handed in."""
    ear = made_ear(chance, choir, 1)
    run = Run(choir, made_standing(chance, choir), ear)
    other = Run(choir, made_standing(chance, choir), ear)
    chord = made_chord(chance, choir)
    hands = [made_hand(chance, choir, choir) for _ in range(2)]
    put = [[part[1:] for part in hand if part[0] == 0] for hand in hands]
    heard = [(chance.randint(0, 40), chance.choice(choir.names()), chance.randrange(choir.notes())) for _ in range(4)]
    name = choir.names()[0]
    last = song.roots()[-1][0]
    duo = Duo(run, other, lag=chance.choice([0, 1, 10 ** 18]))
    match = Match(song, ear, by_book(song), ear)
    book = Book(song)
    deeds = [("breathe", 77), ("put", 78, name, 0)]
    return [
        ("names", choir.names, ()), ("voices", choir.voices, ()), ("hangs", choir.hangs, ([name],)),
        ("cues", song.cues, ()), ("breaths", song.breaths, ()), ("roots", song.roots, ()),
        ("road", road, (song, 33, name)), ("waits", waits, (choir, run.root())), ("ear", run.ear, ()),
        ("hits", hits, (song, chord, 10 ** 18)), ("hit", hit, (song, chord, 3)), ("all_hits", all_hits, (song, chord)),
        ("turn_of", turn_of, (song, chord)), ("ladder", ladder, (song, chord, last + 5)),
        ("first_hit", first_hit, (song, chord, 8)), ("wait_for", wait_for, (choir, run.root(), 9, chord)),
        ("triples", duo.triples, (0,)), ("duo many", duo.many, (10 ** 18,)), ("duo last", duo.last, ()),
        ("duo ladder", duo.ladder, (4,)), ("duo unlike", duo.unlike, (6,)), ("duo first", duo.first, (6,)),
        ("match last", match.last, ()), ("match many", match.many, (10 ** 18,)), ("match unlike", match.unlike, (2,)),
        ("healing", healing, (song, ear, 79, name, 1)), ("idle", is_idle, (song, ear, 79)),
        ("canon", canon, (song, ear, ear, 3)), ("told_apart", told_apart, (run, other, hands)),
        ("partings", partings, (run, other, hands)), ("prices", prices, (choir, chord, put, 2)),
        ("soonest", soonest, (choir, run.root(), 7, chord, put, 2)),
        ("soonest_row", soonest_row, (choir, run.root(), 7, chord, put, 2)),
        ("left", left, (song, heard)), ("bar", bar, (song, heard)), ("agree_many", agree_many, (song, heard)),
        ("is_bar", is_bar, (song, heard, [0, 1])), ("deeds", book.deeds, ()), ("tried", book.tried, (deeds,)),
        ("heals", book.heals, (deeds[1], ear)), ("show_song", show_song, (song,)), ("show_choir", show_choir, (choir,)),
        ("is_ladder", is_ladder, (song, chord, last + 5, [[]])), ("are_waits", are_waits, (choir, run.root(), [])),
        ("is_turn", is_turn, (song, chord, ([1], [0], []))), ("are_pairs", are_pairs, (run, other, hands, [])),
        ("is_parting", is_parting, (run, other, hands, [3])), ("are_prices", are_prices, (choir, chord, put, 2, [])),
        ("are_partings", are_partings, (run, other, hands, [])),
    ]


def lists_in(told):
    """All lists in what is told, those within tuples and lists too."""
    if isinstance(told, (list, tuple)):
        found = [told] if isinstance(told, list) else []
        return found + [part for each in told for part in lists_in(each)]
    return []


def shown(told):
    return show_song(told) if isinstance(told, Song) else repr(told)


class ToldAnew(unittest.TestCase):
    def test_each_question_is_answered_as_at_first(self):
        for chance, song in songs(25, 7):
            try:
                rows = asked(chance, song.choir(), song)
                first = {name: shown(ask(*handed)) for name, ask, handed in rows}
            except TooMany:
                continue
            for name, ask, handed in chance.choices(rows, k=120):
                kept = repr([part for part in handed if isinstance(part, (list, tuple))])
                told = ask(*handed)
                self.assertEqual(shown(told), first[name], name)
                self.assertEqual(repr([part for part in handed if isinstance(part, (list, tuple))]), kept, name)
                lists = lists_in(told)
                self.assertEqual(len({id(part) for part in lists}), len(lists), name)
                handed_lists = {id(part) for part in lists_in(list(handed))}
                for part in lists:
                    self.assertNotIn(id(part), handed_lists, name)
                    part.append("put in by the asker")
                self.assertEqual(shown(ask(*handed)), first[name], name)

    def test_a_song_read_or_made_anew_answers_alike(self):
        for chance, song in songs(20, 8):
            state = chance.getstate()
            try:
                rows = asked(chance, song.choir(), song)
                first = [shown(ask(*handed)) for _, ask, handed in rows]
            except TooMany:
                continue
            for choir in (read_choir(show_choir(song.choir())), song.choir().only(song.choir().names()),
                          Choir(song.choir().pace(), song.choir().notes(), song.choir().voices()[::-1])):
                other = Song(choir, song.first(), cues=song.cues(), breaths=song.breaths())
                self.assertEqual(other, song)
                chance.setstate(state)
                told = [shown(ask(*handed)) for _, ask, handed in asked(chance, choir, other)]
                self.assertEqual(told, first)

    def test_refusals_stand_under_song_error(self):
        for kind in SongError.__subclasses__():
            self.assertEqual(kind.__bases__, (SongError,))
        self.assertEqual(len(SongError.__subclasses__()), 15)


if __name__ == "__main__":
    unittest.main()
