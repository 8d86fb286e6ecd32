"""Promises 20 to 24: choirs, what a root has come to, on which names names hang, choirs told anew."""

import random
import re
import unittest

from halfpace.choirs import Choir, beside, is_standing, renamed, renoted, standings
from halfpace.errors import BadVoice, SongError, Taken, TooGreat, Unlike, Wrong
from tests.slow import (
    NAMES, ODD, all_standings, chances, made_choir, made_standing, made_voices, most_voices, slow_behind, slow_led,
    spoilt,
)

TWO = [("alto", ("alto", "bass"), ((0, 1), (1, 0))), ("bass", ("bass", "bass"), ((0, 1), (1, 1)))]


def number(thing, low, high):
    return type(thing) is int and low <= thing <= high


def name(thing):
    return type(thing) is str and re.fullmatch("[a-z]{1,8}", thing) is not None


def tuple_of(thing, many, ask):
    return type(thing) is tuple and len(thing) == many and all(map(ask, thing))


def due(pace, notes, voices):
    """The refusal that [20] asks for, as (class, place), None where there is none."""
    if not number(pace, 2, 4):
        return (Wrong, 0)
    if not number(notes, 2, 5):
        return (Wrong, 1)
    if type(voices) is not list or not 1 <= len(voices) <= 6 or notes ** len(voices) > 64:
        return (Wrong, 2)

    def table(thing):
        return tuple_of(thing, notes, lambda note: number(note, 0, notes - 1))

    def voice(thing):
        return (
            type(thing) is tuple and len(thing) == 3 and name(thing[0])
            and tuple_of(thing[1], pace, name) and tuple_of(thing[2], pace, table)
        )

    for at, thing in enumerate(voices):
        if not voice(thing) or thing[0] in [ahead[0] for ahead in voices[:at]]:
            return (BadVoice, at)
    for at, thing in enumerate(voices):
        if not {*thing[1]} <= {other[0] for other in voices}:
            return (BadVoice, at)
    return None


class Told(unittest.TestCase):
    def test_what_was_handed_in_is_told(self):
        for chance in chances(200, 20):
            pace = chance.randint(2, 4)
            notes = chance.randint(2, 5)
            voices = made_voices(chance, pace, notes, chance.randint(1, most_voices(notes)))
            choir = Choir(pace, notes, voices)
            self.assertIs(type(choir.pace()), int)
            self.assertEqual((choir.pace(), choir.notes()), (pace, notes))
            self.assertEqual(choir.names(), sorted(voice[0] for voice in voices))
            self.assertEqual(choir.voices(), sorted(voices))
            self.assertEqual(len(choir), len(voices))
            for own, elders, tables in voices:
                for rest in range(pace):
                    self.assertEqual(choir.elder(own, rest), elders[rest])
                    self.assertEqual(choir.table(own, rest), tables[rest])

    def test_every_pace_number_of_notes_and_number_of_voices(self):
        chance = random.Random(1)
        for pace in (2, 3, 4):
            for notes, most in ((2, 6), (3, 3), (4, 3), (5, 2)):
                self.assertEqual(most_voices(notes), most)
                for many in range(1, 7):
                    voices = made_voices(chance, pace, notes, many)
                    if many <= most:
                        self.assertEqual(Choir(pace, notes, voices).voices(), sorted(voices))
                        self.assertEqual(len(standings(Choir(pace, notes, voices))), notes ** many)
                    else:
                        with self.assertRaises(Wrong) as told:
                            Choir(pace, notes, voices)
                        self.assertEqual(told.exception.at, 2)

    def test_a_name_of_eight_letters_and_names_that_are_words_of_the_texts(self):
        voices = [
            ("notes", ("notes", "abcdefgh"), ((0, 0), (1, 1))),
            ("abcdefgh", ("notes", "notes"), ((1, 0), (0, 1))),
        ]
        choir = Choir(2, 2, voices)
        self.assertEqual(choir.names(), ["abcdefgh", "notes"])
        self.assertEqual((choir.elder("notes", 0), choir.elder("notes", 1)), ("notes", "abcdefgh"))
        self.assertEqual(choir.table("abcdefgh", 0), (1, 0))


class Refused(unittest.TestCase):
    def check(self, pace, notes, voices):
        expected = due(pace, notes, voices)
        with self.subTest(handed=repr((pace, notes, voices))[:300]):
            if expected is None:
                self.assertIsInstance(Choir(pace, notes, voices), Choir)
                return
            with self.assertRaises(SongError) as told:
                Choir(pace, notes, voices)
            self.assertIs(type(told.exception), expected[0])
            self.assertIs(type(told.exception.at), int)
            self.assertEqual(told.exception.at, expected[1])

    def test_wrong_pace_notes_and_voices(self):
        for odd in ODD + [0, 1, 5, 6, -2, 10 ** 999, "2", [2], (2,)]:
            self.check(odd, 2, TWO)
            self.check(2, odd, TWO)
            self.check(2, 2, odd)
            self.check(odd, odd, odd)
            self.check(2, odd, odd)
        self.assertEqual(due(True, None, None), (Wrong, 0))
        self.check(2, 2, tuple(TWO))
        self.check(2, 2, [])
        self.check(2, 2, [None] * 7)
        self.check(2, 2, [None] * 6)
        self.check(2, 5, [None] * 3)
        self.check(2, 2, [None] * 4000)

    def test_voices_that_are_none_by_any_part(self):
        for chance in chances(12, 21):
            pace = chance.randint(2, 4)
            notes = chance.randint(2, 5)
            for voices in spoilt(made_voices(chance, pace, notes, chance.randint(1, most_voices(notes)))):
                self.check(pace, notes, voices)

    def test_the_first_bad_voice_is_the_one_and_forms_come_ahead_of_elders(self):
        no_elder = ("alto", ("tenor", "bass"), ((0, 1), (1, 0)))
        no_voice = ("alto", ("alto", "bass"), ((0, 1), (1, 2)))
        for voices, at in (
            ([no_elder, TWO[1]], 0),
            ([TWO[1], no_elder], 1),
            ([no_elder, no_voice], 1),
            ([no_voice, no_elder], 0),
            ([TWO[0], TWO[1], TWO[0]], 2),
            ([TWO[0], TWO[1], TWO[0], None], 2),
            ([TWO[0], None, TWO[0], None], 1),
            ([no_elder, TWO[1], TWO[1]], 2),
            ([TWO[1], TWO[1], no_elder], 1),
        ):
            self.assertEqual(due(2, 2, voices), (BadVoice, at))
            self.check(2, 2, voices)

    def test_the_place_of_a_notes_bound_goes_by_the_notes(self):
        voices = [("a", ("a", "a"), ((0, 1, 2), (2, 1, 0)))]
        self.check(2, 2, voices)
        self.check(2, 3, voices)
        self.check(3, 3, voices)
        self.check(2, 4, voices)

    def test_truths_are_no_notes_and_no_pace(self):
        self.check(2, 2, [("a", ("a", "a"), ((0, True), (0, 1)))])
        self.check(2, 2, [("a", ("a", "a"), ((0, 1), (False, 1)))])
        self.check(True, 2, TWO)
        self.check(2, True, TWO)


class Behind(unittest.TestCase):
    def test_a_standing_leads_voice_by_voice(self):
        choir = Choir(2, 2, TWO)
        self.assertEqual(choir.led((0, 0), 0), (0, 0))
        self.assertEqual(choir.led((0, 0), 1), (1, 1))
        self.assertEqual(choir.led((0, 1), 1), (0, 1))
        for chance in chances(60, 22):
            choir = made_choir(chance)
            for standing in all_standings(choir):
                for rest in range(choir.pace()):
                    self.assertEqual(choir.led(standing, rest), slow_led(choir, standing, rest))

    def waits(self, pace):
        waits = list(range(70)) + [10 ** 18 - 1, 10 ** 18, 10 ** 18 + 1, 10 ** 40, 10 ** 80 + 7]
        for power in (1, 2, 3, 10, 40, 59, 140):
            waits += [pace ** power - 1, pace ** power, pace ** power + 1]
        return waits

    def test_behind_waits_near_and_far(self):
        for chance in chances(40, 23):
            choir = made_choir(chance)
            root = made_standing(chance, choir)
            self.assertEqual(choir.behind(root, 0), root)
            for wait in self.waits(choir.pace()):
                self.assertEqual(choir.behind(root, wait), slow_behind(choir, root, wait))

    def test_behind_a_wait_and_a_rest(self):
        for chance in chances(40, 24):
            choir = made_choir(chance)
            root = made_standing(chance, choir)
            for wait in self.waits(choir.pace()):
                for rest in range(choir.pace()):
                    if wait + rest > 0:
                        later = choir.behind(root, choir.pace() * wait + rest)
                        self.assertEqual(later, choir.led(choir.behind(root, wait), rest))

    def test_nothing_leads_by_a_nought_ahead(self):
        # Behind 0 a root stays, though by the rest 0 it would lead elsewhere.
        choir = Choir(2, 2, [("a", ("a", "a"), ((1, 0), (0, 1)))])
        self.assertEqual([choir.behind((0,), wait) for wait in range(5)], [(0,), (0,), (1,), (0,), (0,)])

    def test_standings(self):
        for chance in chances(30, 25):
            choir = made_choir(chance)
            self.assertEqual(standings(choir), all_standings(choir))
            for standing in all_standings(choir):
                self.assertIs(is_standing(choir, standing), True)

    def test_what_is_no_standing(self):
        for chance in chances(30, 26):
            choir = made_choir(chance)
            standing = made_standing(chance, choir)
            others = all_standings(choir)
            right = {repr(other) for other in others}
            more = [standing + (0,), standing[1:], list(standing), standing[:-1] + (choir.notes(),)]
            for thing in spoilt(standing) + more:
                self.assertIs(is_standing(choir, thing), repr(thing) in right, repr(thing))
        for thing in (
            (True, 0), (0, False), [0, 0], "00", None, 0, {0: 0}, (0,), (0, 0, 0), (0, -1), (0, 2), ((0, 0),),
        ):
            self.assertIs(is_standing(Choir(2, 2, TWO), thing), False)


class Hanging(unittest.TestCase):
    def hangs(self, choir, names):
        found = set(names)
        for _ in choir.names():
            found |= {choir.elder(own, rest) for own in found for rest in range(choir.pace())}
        return sorted(found)

    def test_through_elders_of_elders(self):
        row = [
            ("a", ("b", "b"), ((0, 1), (1, 0))), ("b", ("c", "b"), ((0, 1), (1, 1))),
            ("c", ("c", "c"), ((1, 1), (1, 0))), ("d", ("a", "d"), ((0, 0), (1, 0))),
        ]
        choir = Choir(2, 2, row)
        self.assertEqual(choir.hangs(["a"]), ["a", "b", "c"])
        self.assertEqual(choir.hangs(["b"]), ["b", "c"])
        self.assertEqual(choir.hangs(["c"]), ["c"])
        self.assertEqual(choir.hangs(["d"]), ["a", "b", "c", "d"])
        self.assertEqual(choir.hangs(["c", "b"]), ["b", "c"])
        self.assertEqual(choir.only(["b"]), Choir(2, 2, row[1:3]))
        self.assertEqual(choir.seen((0, 1, 0, 1), ["b"]), (1, 0))
        self.assertEqual(choir.seen((0, 1, 0, 1), ["d"]), (0, 1, 0, 1))

    def test_the_choir_of_just_these_voices_sings_the_same(self):
        for chance in chances(80, 27):
            choir = made_choir(chance)
            names = chance.sample(choir.names(), chance.randint(1, len(choir)))
            handed = list(names)
            hung = choir.hangs(names)
            self.assertEqual(hung, self.hangs(choir, names))
            only = choir.only(names)
            self.assertEqual(only.names(), hung)
            self.assertEqual(only.voices(), [voice for voice in choir.voices() if voice[0] in hung])
            self.assertEqual((only.pace(), only.notes(), len(only)), (choir.pace(), choir.notes(), len(hung)))
            root = made_standing(chance, choir)
            seen = choir.seen(root, names)
            self.assertEqual(seen, tuple(note for own, note in zip(choir.names(), root) if own in hung))
            self.assertIs(is_standing(only, seen), True)
            for wait in [*range(40), 10 ** 18, 10 ** 40 + 1]:
                self.assertEqual(only.behind(seen, wait), choir.seen(choir.behind(root, wait), names))
            self.assertEqual(names, handed)

    def test_one_name_more_than_once(self):
        choir = Choir(2, 2, TWO)
        self.assertEqual(choir.hangs(["bass", "bass"]), ["bass"])
        self.assertEqual(choir.seen((0, 1), ["bass", "bass"]), (1,))
        self.assertEqual(len(choir.only(["bass", "bass"])), 1)


def two_choirs(chance):
    """Two choirs of one pace and as many notes, of unlike names, that may stand beside one another."""
    pace = chance.randint(2, 4)
    notes = chance.randint(2, 5)
    many = chance.randint(2, most_voices(notes))
    cut = chance.randint(1, many - 1)
    one = made_voices(chance, pace, notes, cut)
    other = made_voices(chance, pace, notes, many - cut)
    names = dict(zip(sorted(voice[0] for voice in other), chance.sample("fghijklm", many - cut)))
    return Choir(pace, notes, one), renamed(Choir(pace, notes, other), names)


class Beside(unittest.TestCase):
    def test_each_sings_as_by_itself_whichever_is_the_one(self):
        for chance in chances(60, 28):
            one, other = two_choirs(chance)
            both = beside(one, other)
            self.assertEqual(both, beside(other, one))
            self.assertEqual(both.voices(), sorted(one.voices() + other.voices()))
            self.assertEqual((both.pace(), both.notes()), (one.pace(), one.notes()))
            root = made_standing(chance, one)
            other_root = made_standing(chance, other)
            together = {**dict(zip(one.names(), root)), **dict(zip(other.names(), other_root))}
            stood = tuple(together[own] for own in both.names())
            for wait in [*range(30), 10 ** 18, 10 ** 40]:
                sung = dict(zip(both.names(), both.behind(stood, wait)))
                self.assertEqual(tuple(sung[own] for own in one.names()), one.behind(root, wait))
                self.assertEqual(tuple(sung[own] for own in other.names()), other.behind(other_root, wait))
                self.assertEqual(both.seen(both.behind(stood, wait), one.names()), one.behind(root, wait))
            self.assertEqual(both.only(one.names()), one)
            self.assertEqual(both.only(other.names()), other)

    def refused(self, one, other, kind):
        before = (one.voices(), other.voices())
        with self.assertRaises(SongError) as told:
            beside(one, other)
        self.assertIs(type(told.exception), kind)
        self.assertEqual((one.voices(), other.voices()), before)
        return told.exception

    def of(self, pace, notes, names):
        table = tuple([0] * notes)
        return Choir(pace, notes, [(own, (own,) * pace, (table,) * pace) for own in names])

    def test_unlike_ahead_of_taken(self):
        for pace, notes in ((2, 3), (3, 2), (4, 5), (4, 4)):
            self.refused(self.of(2, 2, "ab"), self.of(pace, notes, "bc"), Unlike)
            self.refused(self.of(pace, notes, "bc"), self.of(2, 2, "abcdef"), Unlike)

    def test_taken_with_the_first_name_ahead_of_too_great(self):
        self.assertEqual(self.refused(self.of(2, 2, "dbca"), self.of(2, 2, "efcb"), Taken).name, "b")
        self.assertEqual(self.refused(self.of(2, 2, "dbza"), self.of(2, 2, "zyx"), Taken).name, "z")
        self.assertEqual(self.refused(self.of(2, 5, "ab"), self.of(2, 5, "cb"), Taken).name, "b")

    def test_a_choir_beside_itself(self):
        for chance in chances(20, 29):
            choir = made_choir(chance)
            self.assertEqual(self.refused(choir, choir, Taken).name, choir.names()[0])

    def test_too_great(self):
        for notes, names in ((2, "abcdef"), (3, "abc"), (4, "abc"), (5, "ab")):
            for cut in range(1, len(names)):
                both = beside(self.of(3, notes, names[:cut]), self.of(3, notes, names[cut:]))
                self.assertEqual(len(both), len(names))
            told = self.refused(self.of(3, notes, names), self.of(3, notes, "z"), TooGreat)
            self.assertEqual(told.most, 64)
            self.assertEqual(self.refused(self.of(3, notes, "z"), self.of(3, notes, names), TooGreat).most, 64)


class ToldAnew(unittest.TestCase):
    def test_renamed_sings_alike_and_is_led_back(self):
        for chance in chances(60, 30):
            choir = made_choir(chance)
            names = dict(zip(choir.names(), chance.sample(NAMES, len(choir))))
            handed = dict(names)
            new = renamed(choir, names)
            self.assertEqual(names, handed)
            self.assertEqual(new.names(), sorted(names.values()))
            self.assertEqual((new.pace(), new.notes()), (choir.pace(), choir.notes()))
            for own in choir.names():
                for rest in range(choir.pace()):
                    self.assertEqual(new.elder(names[own], rest), names[choir.elder(own, rest)])
                    self.assertEqual(new.table(names[own], rest), choir.table(own, rest))
            self.assertEqual(renamed(new, {new_name: own for own, new_name in names.items()}), choir)
            root = dict(zip(choir.names(), made_standing(chance, choir)))
            new_root = tuple(root[own] for own in sorted(names, key=lambda own: names[own]))
            for wait in [*range(20), 10 ** 18]:
                sung = dict(zip(choir.names(), choir.behind(tuple(root.values()), wait)))
                new_sung = dict(zip(new.names(), new.behind(new_root, wait)))
                self.assertEqual(new_sung, {names[own]: note for own, note in sung.items()})

    def test_renamed_where_names_change_places(self):
        new = renamed(Choir(2, 2, TWO), {"alto": "bass", "bass": "alto"})
        self.assertEqual(
            new.voices(),
            [("alto", ("alto", "alto"), ((0, 1), (1, 1))), ("bass", ("bass", "alto"), ((0, 1), (1, 0)))],
        )

    def test_renoted_sings_alike_and_is_led_back(self):
        for chance in chances(60, 31):
            choir = made_choir(chance)
            notes = {own: tuple(chance.sample(range(choir.notes()), choir.notes())) for own in choir.names()}
            handed = dict(notes)
            new = renoted(choir, notes)
            self.assertEqual(notes, handed)
            self.assertEqual(new.names(), choir.names())
            back = {own: tuple(row.index(note) for note in range(choir.notes())) for own, row in notes.items()}
            self.assertEqual(renoted(new, back), choir)

            def put(standing):
                return tuple(notes[own][note] for own, note in zip(choir.names(), standing))

            for standing in all_standings(choir):
                for rest in range(choir.pace()):
                    self.assertEqual(new.led(put(standing), rest), put(choir.led(standing, rest)))
            root = made_standing(chance, choir)
            for wait in (0, 1, 7, 10 ** 18):
                self.assertEqual(new.behind(put(root), wait), put(choir.behind(root, wait)))

    def test_renoted_by_hand(self):
        choir = Choir(2, 3, [("a", ("b", "a"), ((0, 1, 1), (2, 2, 0))), ("b", ("b", "b"), ((0, 1, 2), (1, 1, 1)))])
        new = renoted(choir, {"a": (1, 2, 0), "b": (0, 2, 1)})
        # The note 2 of b is sung as 1; of it a sang 1, which is sung as 2.
        self.assertEqual(new.table("a", 0), (1, 2, 2))
        self.assertEqual(new.table("a", 1), (1, 0, 0))
        self.assertEqual(new.table("b", 0), (0, 1, 2))
        self.assertEqual(new.table("b", 1), (2, 2, 2))


class Equal(unittest.TestCase):
    def test_voices_in_whatever_order(self):
        for chance in chances(30, 32):
            choir = made_choir(chance)
            voices = choir.voices()
            chance.shuffle(voices)
            other = Choir(choir.pace(), choir.notes(), voices)
            self.assertIs(choir == other, True)
            self.assertIs(choir != other, False)

    def test_put_otherwise_in_each_part(self):
        for chance in chances(8, 33):
            choir = made_choir(chance)
            seen = 0
            for place, voice in enumerate(choir.voices()):
                others = [
                    (voice[0], voice[1][:rest] + (own,) + voice[1][rest + 1:], voice[2])
                    for rest in range(choir.pace()) for own in choir.names() if own != voice[1][rest]
                ]
                for rest in range(choir.pace()):
                    for note in range(choir.notes()):
                        table = list(voice[2][rest])
                        table[note] = (table[note] + 1) % choir.notes()
                        others.append((voice[0], voice[1], voice[2][:rest] + (tuple(table),) + voice[2][rest + 1:]))
                for other in others:
                    voices = choir.voices()
                    voices[place] = other
                    new = Choir(choir.pace(), choir.notes(), voices)
                    self.assertIs(choir == new, False)
                    self.assertIs(new != choir, True)
                    seen += 1
            self.assertGreater(seen, 0)

    def test_another_pace_notes_name_or_number_of_voices(self):
        choir = Choir(2, 2, TWO)
        for other in (
            Choir(2, 2, TWO[1:]),
            renamed(choir, {"alto": "alta", "bass": "bass"}),
            Choir(3, 2, [(own, elders + ("bass",), tables + ((0, 1),)) for own, elders, tables in TWO]),
            Choir(2, 3, [(own, elders, tuple(table + (0,) for table in tables)) for own, elders, tables in TWO]),
            beside(choir, Choir(2, 2, [("z", ("z", "z"), ((0, 0), (0, 0)))])),
        ):
            self.assertIs(choir == other, False)
            self.assertIs(other == choir, False)
            self.assertIs(choir != other, True)

    def test_a_choir_is_equal_to_nothing_else(self):
        choir = Choir(2, 2, TWO)
        for other in ODD + [2, TWO, choir.voices(), (2, 2, TWO), choir.names(), Choir]:
            self.assertIs(choir == other, False)
            self.assertIs(other == choir, False)
            self.assertIs(choir != other, True)


class TheAskersOwn(unittest.TestCase):
    def test_told_lists_are_changed_and_told_again(self):
        for chance in chances(20, 34):
            choir = made_choir(chance)
            names = choir.names()[:1]
            for ask in (choir.names, choir.voices, lambda: choir.hangs(names), lambda: standings(choir)):
                told = ask()
                kept = list(told)
                self.assertIs(type(told), list)
                told.reverse()
                told.append(None)
                self.assertEqual(ask(), kept)
                self.assertIsNot(ask(), ask())
            self.assertEqual(names, choir.names()[:1])

    def test_what_was_handed_in_is_emptied_behind_the_call(self):
        for chance in chances(20, 35):
            voices = made_voices(chance, 3, 2, chance.randint(2, 6))
            handed = list(voices)
            choir = Choir(3, 2, handed)
            self.assertEqual(handed, voices)
            root = made_standing(chance, choir)
            sung = [choir.behind(root, wait) for wait in range(30)]
            handed.clear()
            handed.append(None)
            self.assertEqual(choir.voices(), sorted(voices))
            self.assertEqual(len(choir), len(voices))
            self.assertEqual([choir.behind(root, wait) for wait in range(30)], sung)
            names = dict(zip(choir.names(), "uvwxyz"))
            notes = {own: (1, 0) for own in choir.names()}
            new = renamed(choir, names)
            put = renoted(choir, notes)
            kept = (new.voices(), put.voices())
            names.clear()
            notes.clear()
            self.assertEqual((new.voices(), put.voices()), kept)

    def test_told_choirs_leave_the_elder_choir_as_it_was(self):
        choir = Choir(2, 2, TWO)
        choir.only(["bass"])
        renamed(choir, {"alto": "bass", "bass": "alto"})
        renoted(choir, {"alto": (1, 0), "bass": (1, 0)})
        beside(choir, Choir(2, 2, [("z", ("z", "z"), ((0, 0), (0, 0)))]))
        self.assertEqual(choir.voices(), TWO)
        self.assertEqual(choir, Choir(2, 2, TWO))
