"""Promise 91: choirs and songs are written as texts and read back."""

import unittest

from halfpace.choirs import Choir
from halfpace.errors import NoText
from halfpace.songs import Song
from halfpace.texts import read_choir, read_song, show_choir, show_song
from tests.slow import ODD, chances, made_choir, made_cues, made_song, made_standing, made_voices

# The names are words of the texts.
WORDS = ["pace", "notes", "first", "cue", "breath"]
TWO = Choir(2, 2, [
    ("bass", ("bass", "bass"), ((0, 1), (1, 1))),
    ("alto", ("alto", "bass"), ((0, 1), (1, 0))),
])
TWO_TEXT = "pace 2 notes 2\nalto alto:01 bass:10\nbass bass:01 bass:11"
SONG = Song(TWO, (0, 1), cues=[(6, "alto", 0), (0, "bass", 1), (6, "bass", 1)], breaths=[10 ** 18, 4, 0])
SONG_TEXT = TWO_TEXT + "\nfirst 01\ncue 0 bass 1\ncue 6 alto 0\ncue 6 bass 1\nbreath 0\nbreath 4\nbreath " + "1" + "0" * 18


def slow_choir_text(choir):
    rows = ["pace " + str(choir.pace()) + " notes " + str(choir.notes())]
    for name in choir.names():
        row = name
        for rest in range(choir.pace()):
            row += " " + choir.elder(name, rest) + ":" + "".join(str(note) for note in choir.table(name, rest))
        rows.append(row)
    return "\n".join(rows)


def slow_song_text(song):
    rows = [slow_choir_text(song.choir()), "first " + "".join(str(note) for note in song.first())]
    rows += ["cue " + " ".join(str(part) for part in cue) for cue in sorted(song.cues())]
    rows += ["breath " + str(beat) for beat in sorted(song.breaths())]
    return "\n".join(rows)


def word_choir(chance):
    """A choir whose voices are called as words of the texts."""
    pace = chance.randint(2, 4)
    names = chance.sample(WORDS, chance.randint(1, 5))
    voices = []
    for name in names:
        tables = tuple(tuple(chance.randrange(2) for _ in range(2)) for _ in range(pace))
        voices.append((name, tuple(chance.choice(names) for _ in range(pace)), tables))
    return Choir(pace, 2, voices)


def made_songs(many, seed):
    for chance in chances(many, seed):
        choir = word_choir(chance) if chance.random() < 0.5 else made_choir(chance)
        far = chance.choice([5, 60, 10 ** 18])
        yield chance, made_song(chance, choir, far, chance.choice([0, 1, 8]), chance.choice([0, 1, 4]))


class Written(unittest.TestCase):
    def test_by_hand(self):
        self.assertEqual(show_choir(TWO), TWO_TEXT)
        self.assertEqual(show_song(SONG), SONG_TEXT)
        self.assertEqual(show_song(Song(TWO, (1, 0))), TWO_TEXT + "\nfirst 10")
        first = Choir(2, 3, [("first", ("first", "first"), ((0, 1, 2), (2, 1, 0)))])
        self.assertEqual(show_song(Song(first, (2,))), "pace 2 notes 3\nfirst first:012 first:210\nfirst 2")

    def test_of_all_kinds(self):
        for _, song in made_songs(150, 910):
            self.assertEqual(show_choir(song.choir()), slow_choir_text(song.choir()))
            self.assertEqual(show_song(song), slow_song_text(song))

    def test_whatever_the_order(self):
        for chance in chances(40, 911):
            pace, notes = chance.randint(2, 4), chance.randint(2, 3)
            voices = made_voices(chance, pace, notes, 3)
            choir = Choir(pace, notes, voices)
            other = Choir(pace, notes, chance.sample(voices, 3))
            self.assertEqual(show_choir(choir), show_choir(other))
            cues = made_cues(chance, choir, 6, 12)
            breaths = chance.sample(range(20), 5)
            root = made_standing(chance, choir)
            song = Song(choir, root, cues=cues, breaths=breaths)
            turned = Song(other, root, cues=chance.sample(cues, len(cues)), breaths=chance.sample(breaths, 5))
            self.assertEqual(show_song(song), show_song(turned))


class Read(unittest.TestCase):
    def test_read_back_equal_and_written_the_same(self):
        for _, song in made_songs(150, 912):
            text = show_choir(song.choir())
            choir = read_choir(text)
            self.assertEqual(choir, song.choir())
            self.assertEqual(show_choir(choir), text)
            text = show_song(song)
            other = read_song(text)
            self.assertEqual(other, song)
            self.assertEqual(show_song(other), text)
            for beat in (0, 1, 5, 60, 10 ** 18, 10 ** 40):
                self.assertEqual(other.standing(beat), song.standing(beat))

    def test_forty_of_each(self):
        for chance in chances(5, 913):
            song = made_song(chance, made_choir(chance), 10 ** 18, 40, 40)
            self.assertEqual(read_song(show_song(song)), song)
            text = show_song(song)
            self.refused(read_song, text + "\nbreath " + str(10 ** 18))
            rows = text.split("\n")
            at = [place for place, row in enumerate(rows) if row.startswith("cue ")][-1]
            self.refused(read_song, "\n".join(rows[:at] + ["cue 1 " + song.choir().names()[0] + " 0"] + rows[at:]))

    def refused(self, read, thing):
        with self.assertRaises(NoText, msg=repr(thing)[:200]) as told:
            read(thing)
        self.assertIs(type(told.exception), NoText)

    def test_a_choirs_text_is_no_songs_nor_the_other_way_about(self):
        for _, song in made_songs(60, 914):
            self.refused(read_song, show_choir(song.choir()))
            self.refused(read_choir, show_song(song))

    def read_or_refused(self, read, write, text):
        """What is read is written just so; all else is refused."""
        try:
            made = read(text)
        except NoText as refusal:
            self.assertIs(type(refusal), NoText)
            return False
        self.assertEqual(write(made), text)
        return True

    def test_any_sign_put_in_out_or_for_another(self):
        signs = "\n :abz019- +_.,'\"#~Xx"
        kinds = {True: 0, False: 0}
        for chance, song in made_songs(40, 915):
            for read, write, text in ((read_song, slow_song_text, show_song(song)),
                                      (read_choir, slow_choir_text, show_choir(song.choir()))):
                for _ in range(60):
                    at = chance.randrange(len(text) + 1)
                    sign = chance.choice(signs)
                    for other in (text[:at] + sign + text[at:], text[:at] + text[at + 1:],
                                  text[:at] + sign + text[at + 1:], text[:at] + text[at - 1:]):
                        if other != text:
                            kinds[self.read_or_refused(read, write, other)] += 1
        self.assertGreater(min(kinds.values()), 100)

    def test_what_is_read_otherwise_is_another(self):
        # Where a changed text is read, it is another choir or song.
        for chance, song in made_songs(30, 916):
            text = show_song(song)
            for _ in range(40):
                at = chance.randrange(len(text))
                other = text[:at] + chance.choice("0123456789ab") + text[at + 1:]
                if other != text and self.read_or_refused(read_song, slow_song_text, other):
                    self.assertNotEqual(read_song(other), song)

    def test_rows_left_out_twice_and_exchanged(self):
        for chance, song in made_songs(60, 917):
            for read, write, text in ((read_song, slow_song_text, show_song(song)),
                                      (read_choir, slow_choir_text, show_choir(song.choir()))):
                rows = text.split("\n")
                for at in range(len(rows)):
                    self.read_or_refused(read, write, "\n".join(rows[:at] + rows[at + 1:]))
                    self.refused(read, "\n".join(rows[:at + 1] + rows[at:]))
                    self.refused(read, "\n".join(rows[:at] + [""] + rows[at:]))
                    other = chance.randrange(len(rows))
                    if rows[at] != rows[other]:
                        turned = list(rows)
                        turned[at], turned[other] = turned[other], turned[at]
                        self.refused(read, "\n".join(turned))
                for other in (text + "\n", "\n" + text, text + " ", " " + text, text + "\n\n", text.upper(),
                              text.replace("\n", "\n\n"), text.replace(" ", "  "), text.replace("\n", " ")):
                    self.refused(read, other)

    def test_numbers_with_noughts_ahead_and_long_ones(self):
        for number in ("00", "01", "007", "+1", "-1", "1_0", "", "x", "1.0", str(10 ** 18 + 1), "9" * 19, "1" * 20,
                       "1" * 3000, "0" * 5000, "9" * 90000):
            self.refused(read_song, TWO_TEXT + "\nfirst 01\nbreath " + number)
            self.refused(read_song, TWO_TEXT + "\nfirst 01\ncue " + number + " alto 0")
            self.refused(read_song, TWO_TEXT + "\nfirst 01\ncue 5 alto " + number)
            self.refused(read_choir, TWO_TEXT.replace("pace 2", "pace " + number))
            self.refused(read_choir, TWO_TEXT.replace("notes 2", "notes " + number))
            # Where notes stand side by side these two are notes.
            if number not in ("00", "01"):
                self.refused(read_song, TWO_TEXT + "\nfirst " + number)
                self.refused(read_choir, TWO_TEXT.replace(":01", ":" + number, 1))
        self.assertEqual(read_song(TWO_TEXT + "\nfirst 01\nbreath 0").breaths(), [0])
        self.assertEqual(read_song(TWO_TEXT + "\nfirst 01\nbreath " + str(10 ** 18)).breaths(), [10 ** 18])

    def test_what_would_make_no_choir(self):
        for text in (
            "", "pace 2 notes 2", "pace 1 notes 2\na a:01", "pace 5 notes 2\na a:01 a:01 a:01 a:01 a:01",
            "pace 2 notes 1\na a:0 a:0", "pace 2 notes 6\na a:012345 a:012345", "pace 2 notes 2\na a:01",
            "pace 2 notes 2\na a:01 a:01 a:01", "pace 2 notes 2\na a:01 b:01", "pace 2 notes 2\na a:02 a:01",
            "pace 2 notes 2\na a:011 a:01", "pace 2 notes 2\na a:0 a:01", "pace 2 notes 2\na a:01 a:",
            "pace 2 notes 2\nA A:01 A:01", "pace 2 notes 2\nabcdefghi abcdefghi:01 abcdefghi:01",
            "pace 2 notes 2\na a:01 a:01\na a:01 a:01", "pace 2 notes 2\nb b:01 b:01\na a:01 a:01",
            "notes 2 pace 2\na a:01 a:01", "pace 2 notes 2 a\na a:01 a:01", "pace 2 notes\na a:01 a:01",
            "pace 2 notes 2\na a:01:01 a:01", "pace 2 notes 2\n a:01 a:01", "pace 2 notes 2\n:01 :01 :01", ":", "\n", " ",
            "pace 2 notes 2\n" + "\n".join(f"{name} a:01 a:01" for name in "abcdefg"),
            "pace 2 notes 3\n" + "\n".join(f"{name} a:012 a:012" for name in "abcd"),
        ):
            self.refused(read_choir, text)
            self.refused(read_song, text + "\nfirst 0")
            self.refused(read_song, text)

    def test_what_would_make_no_song(self):
        for rows in (
            "first", "first ", "first 0", "first 012", "first 02", "first 0 1", "First 01", "cue 0 alto 1",
            "first 01\ncue 5 tenor 0", "first 01\ncue 5 alto 2", "first 01\ncue 5 alto", "first 01\ncue alto 5 0",
            "first 01\ncue 5 alto 0\ncue 5 alto 1", "first 01\nbreath 5\nbreath 5", "first 01\nbreath 5\ncue 5 alto 0",
            "first 01\nbreath 6\nbreath 5", "first 01\nbreath", "first 01\nbreath 5 5", "first 01\nbreathe 5",
            "first 01\ncue 7 alto 0\ncue 5 alto 0", "first 01\nfirst 01", "first 01\n" + TWO_TEXT, "first 01\n5",
            "first 01\nalto alto:01 bass:10", "first 01\ncue 10 alto 0\ncue 5 bass 0", "breath 5", "01",
        ):
            self.refused(read_song, TWO_TEXT + "\n" + rows)
        self.assertEqual(read_song(TWO_TEXT + "\nfirst 01").first(), (0, 1))

    def test_what_is_no_text(self):
        for thing in ODD + [0, 1, TWO, SONG, [TWO_TEXT], (SONG_TEXT,), TWO_TEXT.encode(), 10 ** 999, {TWO_TEXT: 1}]:
            self.refused(read_choir, thing)
            self.refused(read_song, thing)

    def test_long_texts(self):
        for text in ("a" * 100000, "\n" * 100000, " " * 100000, "a:01\n" * 20000, TWO_TEXT + "\nbreath 1" * 10000,
                     "pace 2 notes 2\n" + "a a:01 a:01\n" * 8000, TWO_TEXT + "\nfirst " + "01" * 40000, ":" * 100000):
            self.refused(read_choir, text)
            self.refused(read_song, text)
            self.refused(read_song, TWO_TEXT + "\nfirst 01\n" + text[:99000])


if __name__ == "__main__":
    unittest.main()
