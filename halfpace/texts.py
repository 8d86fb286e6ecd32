"""Texts: choirs and songs written in rows, and read back."""

from halfpace.choirs import Choir
from halfpace.errors import NoText, SongError
from halfpace.songs import Song

# A beat has no more figures; Python itself refuses to read very long numbers.
MOST_FIGURES = 19
FIGURES = "0123456789"


def show_choir(choir):
    """The text of a choir."""
    return "\n".join(_choir_rows(choir))


def _choir_rows(choir):
    rows = [f"pace {choir.pace()} notes {choir.notes()}"]
    for name, elders, tables in choir.voices():
        rows.append(name + "".join([f" {elder}:{_side_by_side(table)}" for elder, table in zip(elders, tables)]))
    return rows


def _side_by_side(notes):
    return "".join([str(note) for note in notes])


def show_song(song):
    """The text of a song."""
    rows = _choir_rows(song.choir())
    rows.append(f"first {_side_by_side(song.first())}")
    rows.extend([f"cue {beat} {name} {note}" for beat, name, note in song.cues()])
    rows.extend([f"breath {beat}" for beat in song.breaths()])
    return "\n".join(rows)


def read_choir(thing):
    """The choir of a text."""
    choir = _choir_of(thing.split("\n")) if isinstance(thing, str) else None
    # Whatever is read otherwise than it is written is no text of a choir.
    if choir is None or show_choir(choir) != thing:
        raise NoText()
    return choir


def read_song(thing):
    """The song of a text."""
    song = _song_of(thing.split("\n")) if isinstance(thing, str) else None
    if song is None or show_song(song) != thing:
        raise NoText()
    return song


def _choir_of(rows):
    # None where they are no choir's rows; some of what is read is written otherwise.
    words = rows[0].split(" ")
    if len(words) != 4:
        return None
    voices = [_voice_of(row) for row in rows[1:]]
    try:
        return Choir(_number_of(words[1]), _number_of(words[3]), voices)
    except SongError:
        return None


def _voice_of(row):
    # What is no voice makes no choir.
    words = row.split(" ")
    parts = [word.split(":") for word in words[1:]]
    if not all([len(part) == 2 for part in parts]):
        return None
    elders = [elder for elder, _ in parts]
    tables = [_notes_of(table) for _, table in parts]
    return (words[0], tuple(elders), tuple(tables))


def _notes_of(word):
    return tuple([_number_of(sign) for sign in word])


def _number_of(word):
    # None where it is no number.
    if not 1 <= len(word) <= MOST_FIGURES or not all([sign in FIGURES for sign in word]):
        return None
    return int(word)


def _song_of(rows):
    # A voice may be called as the other rows begin, but its row alone has a colon.
    others = [at for at, row in enumerate(rows) if at > 0 and ":" not in row]
    if not others:
        return None
    at = others[0]
    choir = _choir_of(rows[:at])
    first = _notes_of(rows[at].split(" ")[-1])
    cues = []
    breaths = []
    for row in rows[at + 1:]:
        words = row.split(" ")
        if len(words) == 4:
            cues.append((_number_of(words[1]), words[2], _number_of(words[3])))
        else:
            breaths.append(_number_of(words[-1]))
    try:
        return Song(choir, first, cues=cues, breaths=breaths)
    except SongError:
        return None
