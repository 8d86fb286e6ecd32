"""Promises 92 and 93: books, their deeds, what is taken back, and whether a deed heals."""

import unittest

from halfpace.books import Book
from halfpace.choirs import Choir
from halfpace.errors import Full, NoCue, Nothing, SongError, Stopped, There, TooMany
from halfpace.matches import Match, healing
from halfpace.songs import Song
from tests.slow import ODD, chances, made_choir, made_cues, made_ear, made_standing, rising_choir, spoilt

HELD = Choir(2, 2, [("a", ("a", "a"), ((0, 1), (0, 1))), ("b", ("b", "b"), ((0, 1), (0, 1)))])
EAR = [("a", (0, 1))]


class Reckoned:
    """A book reckoned by itself: cues as a dict, breaths as a set, and all that was done as copies of these."""

    def __init__(self, song):
        self.choir = song.choir()
        self.first = song.first()
        self.rows = [(None, {cue[:2]: cue[2] for cue in song.cues()}, set(song.breaths()))]
        self.undone = []

    def behind(self, deed):
        """What is refused, or the cues and breaths behind a deed."""
        _, cues, breaths = self.rows[-1]
        cues, breaths = dict(cues), set(breaths)
        word, beat = deed[:2]
        if word in ("breathe", "flow"):
            if word == "breathe" and beat in breaths:
                return (There, beat, None)
            if word == "breathe" and len(breaths) == 40:
                return (Full,)
            if word == "flow" and beat not in breaths:
                return (NoCue, beat, None)
            breaths ^= {beat}
            return cues, breaths
        place = (beat, deed[2])
        if word == "put":
            if place in cues:
                return (There, *place)
            if len(cues) == 40:
                return (Full,)
            cues[place] = deed[3]
            return cues, breaths
        if place not in cues:
            return (NoCue, *place)
        note = cues.pop(place)
        if word == "move":
            if (deed[3], deed[2]) in cues or deed[3] == beat:
                return (There, deed[3], deed[2])
            cues[deed[3], deed[2]] = note
        return cues, breaths

    def do(self, deed):
        told = self.behind(deed)
        if isinstance(told[0], dict):
            self.rows.append((deed, *told))
            self.undone = []
            return None
        return told

    def back(self):
        if len(self.rows) == 1:
            return (Nothing,)
        self.undone.append(self.rows.pop())
        return None

    def again(self):
        if not self.undone:
            return (Nothing,)
        self.rows.append(self.undone.pop())
        return None

    def song(self):
        _, cues, breaths = self.rows[-1]
        return Song(self.choir, self.first, cues=[(*place, note) for place, note in cues.items()],
                    breaths=list(breaths))

    def deeds(self):
        return [row[0] for row in self.rows[1:]]

    def copied(self):
        other = Reckoned(self.song())
        other.rows = list(self.rows)
        other.undone = list(self.undone)
        return other


def do(book, deed):
    """A deed done by the method of its word."""
    if deed[0] == "put":
        return book.put(*deed[1:])
    if deed[0] == "take":
        return book.take(*deed[1:])
    if deed[0] == "breathe":
        return book.breathe(*deed[1:])
    if deed[0] == "flow":
        return book.flow(*deed[1:])
    return book.move(*deed[1:])


def made_deed(chance, choir, last):
    beat = chance.choice([chance.randint(0, last), chance.randint(0, last), 10 ** 18])
    later = chance.choice([chance.randint(0, last), beat, 10 ** 18])
    name = chance.choice(choir.names())
    return chance.choice([
        ("put", beat, name, chance.randrange(choir.notes())), ("put", beat, name, chance.randrange(choir.notes())),
        ("take", beat, name), ("breathe", beat), ("flow", beat), ("move", beat, name, later),
    ])


def made_books(many, seed):
    """Books of small choirs, at beats where deeds meet one another; some of them all but full."""
    for place, chance in enumerate(chances(many, seed)):
        choir = made_choir(chance, None, 2, chance.randint(1, 2))
        last = chance.choice([2, 4, 8])
        cues, breaths = made_cues(chance, choir, chance.randint(0, 3), last), []
        if place % 4 == 0:
            last = 45
            cues = made_cues(chance, choir, chance.choice([38, 39, 40]), last)
            breaths = chance.sample(range(last + 1), chance.choice([38, 39, 40]))
        yield chance, Song(choir, made_standing(chance, choir), cues=cues, breaths=breaths), last


class Reckonings(unittest.TestCase):
    def same(self, book, reckoned):
        self.assertEqual(book.song(), reckoned.song())
        self.assertIs(type(book.deeds()), list)
        self.assertEqual(repr(book.deeds()), repr(reckoned.deeds()))

    def told(self, expected, ask, *handed):
        """None, or the refusal that was expected, with its fields."""
        if expected is None:
            self.assertIsNone(ask(*handed))
            return
        with self.assertRaises(SongError) as refusal:
            ask(*handed)
        self.assertIs(type(refusal.exception), expected[0])
        if expected[0] in (There, NoCue):
            self.assertEqual((refusal.exception.beat, refusal.exception.name), expected[1:])

    def test_against_an_own_reckoning(self):
        kinds = {}
        for chance, song, last in made_books(200, 920):
            pairs = [(Book(song), Reckoned(song))]
            for _ in range(20):
                at = chance.randrange(len(pairs))
                book, reckoned = pairs[at]
                step = chance.choice(["deed"] * 6 + ["back", "back", "again", "again", "copied"])
                if step == "copied" and len(pairs) < 4:
                    pairs.append((book.copied(), reckoned.copied()))
                    self.assertIsNot(pairs[-1][0], book)
                elif step == "back":
                    self.told(reckoned.back(), book.back)
                elif step == "again":
                    self.told(reckoned.again(), book.again)
                elif step == "deed":
                    deed = made_deed(chance, song.choir(), last)
                    expected = reckoned.do(deed)
                    kind = (deed[0], expected[0].__name__ if expected else None)
                    kinds[kind] = kinds.get(kind, 0) + 1
                    self.told(expected, do, book, deed)
                for each in pairs:
                    self.same(*each)
            self.assertEqual(Book(song).song(), song)
        for kind in [("put", None), ("put", "There"), ("put", "Full"), ("take", None), ("take", "NoCue"), ("move", None),
                     ("move", "NoCue"), ("move", "There"), ("breathe", None), ("breathe", "There"), ("breathe", "Full"),
                     ("flow", None), ("flow", "NoCue")]:
            self.assertGreater(kinds.get(kind, 0), 8, kind)

    def test_by_hand(self):
        book = Book(Song(HELD, (0, 1)))
        self.assertRaises(Nothing, book.back)
        self.assertRaises(Nothing, book.again)
        book.put(5, "a", 1)
        book.move(5, "a", 9)
        book.breathe(3)
        self.assertEqual(book.deeds(), [("put", 5, "a", 1), ("move", 5, "a", 9), ("breathe", 3)])
        self.assertEqual(book.song(), Song(HELD, (0, 1), cues=[(9, "a", 1)], breaths=[3]))
        book.back()
        book.back()
        self.assertEqual(book.song().cues(), [(5, "a", 1)])
        book.again()
        self.assertEqual(book.deeds(), [("put", 5, "a", 1), ("move", 5, "a", 9)])
        book.take(9, "a")
        self.assertRaises(Nothing, book.again)
        self.assertEqual(book.song(), Song(HELD, (0, 1)))
        book.back()
        book.back()
        self.assertEqual(book.song().cues(), [(5, "a", 1)])
        self.assertRaises(Nothing, Book(book.song()).back)

    def test_what_is_refused_leaves_what_can_be_done_again(self):
        book = Book(Song(HELD, (0, 1), cues=[(1, "a", 0)]))
        book.breathe(3)
        book.back()
        for deed in (("put", 1, "a", 1), ("take", 2, "a"), ("flow", 3), ("move", 1, "b", 4), ("move", 1, "a", 1)):
            self.assertRaises(SongError, do, book, deed)
        book.again()
        self.assertEqual(book.deeds(), [("breathe", 3)])

    def test_move(self):
        song = Song(HELD, (0, 1), cues=[(1, "a", 0), (4, "a", 1), (1, "b", 1)])
        for beat, name, later, expected in (
            (2, "a", 4, (NoCue, 2, "a")), (1, "a", 4, (There, 4, "a")), (1, "a", 1, (There, 1, "a")),
            (2, "a", 2, (NoCue, 2, "a")), (1, "b", 4, None), (1, "a", 10 ** 18, None), (4, "a", 0, None),
        ):
            book = Book(song)
            self.told(expected, book.move, beat, name, later)
            self.assertEqual(len(book.deeds()), int(expected is None))
            if expected is None:
                note = dict((cue[:2], cue[2]) for cue in song.cues())[beat, name]
                self.assertEqual(book.song(), song.without(beat, name).with_cue(later, name, note))
                book.back()
            self.assertEqual(book.song(), song)

    def test_move_in_a_full_song(self):
        song = Song(HELD, (0, 1), cues=[(beat, "a", 0) for beat in range(40)])
        book = Book(song)
        self.assertRaises(Full, book.put, 50, "a", 0)
        book.move(39, "a", 50)
        self.assertEqual(len(book.song().cues()), 40)


class Copies(unittest.TestCase):
    def test_they_go_on_by_themselves(self):
        book = Book(Song(HELD, (0, 1)))
        for beat in range(5):
            book.breathe(beat)
        book.back()
        book.back()
        other = book.copied()
        self.assertIsNot(other, book)
        self.assertEqual(other.deeds(), book.deeds())
        other.again()
        other.again()
        self.assertEqual(other.song().breaths(), [0, 1, 2, 3, 4])
        self.assertEqual(book.song().breaths(), [0, 1, 2])
        book.put(7, "a", 1)
        self.assertRaises(Nothing, book.again)
        for _ in range(5):
            other.back()
        self.assertRaises(Nothing, other.back)
        self.assertEqual(other.song(), Song(HELD, (0, 1)))
        self.assertEqual(book.song().cues(), [(7, "a", 1)])
        third = other.copied()
        third.again()
        self.assertEqual((third.song().breaths(), other.song().breaths()), ([0], []))


class Tried(unittest.TestCase):
    def test_where_a_list_of_deeds_leads(self):
        stops = 0
        for chance, song, last in made_books(150, 921):
            book, reckoned = Book(song), Reckoned(song)
            for _ in range(3):
                deed = made_deed(chance, song.choir(), last)
                if reckoned.do(deed) is None:
                    do(book, deed)
            if reckoned.rows[1:] and chance.random() < 0.5:
                reckoned.back()
                book.back()
            deeds = [made_deed(chance, song.choir(), last) for _ in range(chance.randint(0, 8))]
            other = reckoned.copied()
            refused = [at for at, deed in enumerate(deeds) if other.do(deed) is not None]
            if refused:
                stops += 1
                with self.assertRaises(Stopped) as refusal:
                    book.tried(deeds)
                self.assertIs(type(refusal.exception), Stopped)
                self.assertEqual(refusal.exception.at, refused[0])
                right = reckoned.copied()
                for deed in deeds[:refused[0]]:
                    right.do(deed)
                self.assertEqual(book.tried(deeds[:refused[0]]), right.song())
            else:
                self.assertEqual(book.tried(deeds), other.song())
            # The book stays as it is, with what can be done again.
            self.assertEqual(book.song(), reckoned.song())
            self.assertEqual(book.deeds(), reckoned.deeds())
            if reckoned.undone:
                book.again()
                reckoned.again()
                self.assertEqual(book.song(), reckoned.song())
        self.assertGreater(stops, 60)

    def test_its_own_deeds_lead_to_it(self):
        for chance, song, last in made_books(60, 922):
            book = Book(song)
            for _ in range(12):
                try:
                    do(book, made_deed(chance, song.choir(), last))
                except SongError:
                    pass
            self.assertEqual(Book(song).tried(book.deeds()), book.song())

    def stopped(self, book, deeds, at):
        with self.assertRaises(SongError, msg=repr(deeds)[:200]) as refusal:
            book.tried(deeds)
        self.assertIs(type(refusal.exception), Stopped)
        self.assertEqual(repr(refusal.exception.at), repr(at))

    def test_no_such_deed(self):
        song = Song(HELD, (0, 1), cues=[(1, "a", 0)], breaths=[2])
        book = Book(song)
        right = [("put", 5, "a", 1), ("take", 1, "a"), ("breathe", 5), ("flow", 2), ("move", 1, "a", 7)]
        for deed in right:
            self.assertEqual(len(book.tried([deed]).roots()) > 0, True)
        odd = ODD + [0, 1, "put", ("back",), ("again",), ("put",), ("Put", 5, "a", 1), ("put", 5, "a"), ("copied",)]
        odd += [("put", 5, "a", 2), ("put", 5, "a", -1), ("put", 5, "c", 1), ("put", 10 ** 18 + 1, "a", 1),
                ("put", -1, "a", 1), ("put", True, "a", 1), ("put", 5, "a", True), ("put", 5, "a", False),
                ("take", 1, "c"), ("take", True, "a"), ("take", 1), ("take", 1, "a", 0), ("breathe", 10 ** 18 + 1),
                ("breathe", -1), ("breathe", True), ("breathe",), ("breathe", 5, 5), ("breathe", 5, None), ("flow", 2, 2),
                ("flow", "2"), ("flow", None), ("move", 1, "a"), ("move", 1, "a", 10 ** 18 + 1), ("move", 1, "a", -1),
                ("move", 1, "a", False), ("move", True, "a", 7), ("move", 1, "c", 7), ("move", 1, ["a"], 7),
                (True, 5), (None, 5), (b"breathe", 5), ("", 5), ("breathe", 5.5), ("put", 5, b"a", 1), ("move", 1, 7, "a"),
                ("flow", 2.0), ("take", 1.0, "a"), ("put", 5.0, "a", 1), ("put", 5, "a", 1.0), ("take", 1, None)]
        for deed in odd + [list(deed) for deed in right]:
            self.stopped(book, [deed], 0)
            self.stopped(book, [("breathe", 9), deed, ("breathe", 9)], 1)
        for deed in right:
            for other in spoilt(deed):
                self.stopped(book, [("breathe", 9), other], 1)
        self.assertEqual((book.song(), book.deeds()), (song, []))
        self.assertEqual(book.tried([]), song)

    def test_beats_to_10_to_the_18th(self):
        book = Book(Song(HELD, (0, 1)))
        told = book.tried([("put", 10 ** 18, "a", 1), ("breathe", 10 ** 18), ("move", 10 ** 18, "a", 0)])
        self.assertEqual((told.cues(), told.breaths()), ([(0, "a", 1)], [10 ** 18]))

    def test_the_first_that_is_refused_by_what_was_done_ahead(self):
        book = Book(Song(HELD, (0, 1)))
        self.stopped(book, [("put", 5, "a", 1), ("put", 5, "a", 0)], 1)
        self.stopped(book, [("put", 5, "a", 1), ("take", 5, "a"), ("take", 5, "a")], 2)
        self.stopped(book, [("breathe", beat) for beat in range(50)], 40)
        self.stopped(book, [("put", beat, "b", 0) for beat in range(50)], 40)
        self.stopped(book, [("breathe", 1), ("flow", 1), ("flow", 1), None], 2)


class Heals(unittest.TestCase):
    def test_each_kind_of_deed_done_or_refused(self):
        kinds = {}
        for chance in chances(500, 923):
            made = rising_choir if chance.random() < 0.4 else made_choir
            choir = made(chance, None, 2, chance.randint(1, 2))
            cues = made_cues(chance, choir, chance.randint(0, 4), 6)
            book = Book(Song(choir, made_standing(chance, choir), cues=cues, breaths=chance.sample(range(7), 3)))
            reckoned = Reckoned(book.song())
            book.breathe(50)
            book.back()
            ear = made_ear(chance, choir, 1)
            for deed in [made_deed(chance, choir, 6) for _ in range(4)]:
                expected = reckoned.behind(deed)
                if not isinstance(expected[0], dict):
                    with self.assertRaises(expected[0]):
                        book.heals(deed, ear, most=1)
                    kinds["refused"] = kinds.get("refused", 0) + 1
                else:
                    self.check(book, deed, ear, expected, kinds)
                self.assertEqual((book.song(), book.deeds()), (reckoned.song(), []))
            # What was taken back can be done again.
            book.again()
            self.assertEqual(book.deeds(), [("breathe", 50)])
        for word in ("put", "take", "breathe", "flow", "move"):
            for told in ("unheard", "healed", "never"):
                self.assertGreater(kinds.get((word, told), 0), 0, (word, told))

    def check(self, book, deed, ear, expected, kinds):
        song = book.song()
        cues, breaths = expected
        behind = Song(song.choir(), song.first(), cues=[(*place, note) for place, note in cues.items()],
                      breaths=list(breaths))
        told = book.heals(deed, ear)
        last = Match(behind, ear, song, ear).last()
        if last[0] == "alike":
            self.assertEqual(told, ("unheard",))
        elif last[0] == "last":
            self.assertEqual(told, ("healed", last[1] + 1))
        else:
            self.assertEqual(told, ("never",))
        if deed[0] == "put":
            self.assertEqual(told, healing(song, ear, *deed[1:]))
        kinds[deed[0], told[0]] = kinds.get((deed[0], told[0]), 0) + 1

    def test_too_many_behind_the_deeds_refusals(self):
        voices = [("a", ("b", "c"), ((0, 1), (1, 0))), ("b", ("c", "a"), ((1, 0), (0, 1))), ("c", ("a", "b"), ((0, 1), (1, 0)))]
        book = Book(Song(Choir(2, 2, voices), (0, 0, 1), cues=[(3, "a", 1)]))
        for deed, refusal in ((("put", 3, "a", 0), There), (("take", 3, "b"), NoCue), (("flow", 3), NoCue),
                              (("move", 3, "a", 3), There), (("move", 4, "a", 3), NoCue), (("put", 4, "a", 1), TooMany),
                              (("take", 3, "a"), TooMany), (("breathe", 5), TooMany), (("move", 3, "a", 6), TooMany)):
            with self.assertRaises(SongError) as told:
                book.heals(deed, EAR, most=1)
            self.assertIs(type(told.exception), refusal)
            if refusal is TooMany:
                self.assertEqual(told.exception.most, 1)
        self.assertEqual(book.deeds(), [])

    def test_by_hand(self):
        book = Book(Song(HELD, (0, 1)))
        book.put(9, "a", 0)
        self.assertEqual(book.heals(("put", 4, "a", 1), EAR), ("healed", 9))
        self.assertEqual(book.heals(("put", 4, "b", 0), EAR), ("unheard",))
        self.assertEqual(book.heals(("put", 10, "a", 1), EAR), ("never",))
        self.assertEqual(book.heals(("breathe", 4), EAR), ("unheard",))
        self.assertEqual(book.heals(("take", 9, "a"), EAR), ("unheard",))
        book.put(3, "a", 1)
        self.assertEqual(book.heals(("take", 9, "a"), EAR), ("never",))
        self.assertEqual(book.heals(("move", 9, "a", 20), EAR), ("healed", 20))
        self.assertEqual(book.heals(("move", 9, "a", 5), EAR), ("healed", 9))
        self.assertEqual(book.deeds(), [("put", 9, "a", 0), ("put", 3, "a", 1)])


class TheAskersOwn(unittest.TestCase):
    def test_told_and_handed_lists(self):
        book = Book(Song(HELD, (0, 1)))
        book.breathe(3)
        told = book.deeds()
        told.append(("breathe", 4))
        book.deeds().clear()
        self.assertEqual(book.deeds(), [("breathe", 3)])
        self.assertEqual(book.song().breaths(), [3])
        book.song().breaths().append(7)
        self.assertEqual(book.song().breaths(), [3])
        deeds = [("put", 5, "a", 1)]
        song = book.tried(deeds)
        deeds[0] = ("put", 5, "a", 0)
        self.assertEqual(song.cues(), [(5, "a", 1)])
        self.assertEqual(book.tried(deeds).cues(), [(5, "a", 0)])
        ear = list(EAR)
        self.assertEqual(book.heals(("put", 5, "a", 1), ear), ("never",))
        ear[0] = ("a", (4, 4))
        self.assertEqual(book.heals(("put", 5, "a", 1), ear), ("unheard",))
        self.assertEqual(book.deeds(), [("breathe", 3)])


if __name__ == "__main__":
    unittest.main()
