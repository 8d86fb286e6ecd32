"""Deeds: what can be done to a song, as tuples of a word and what belongs to it."""

from halfpace.errors import NoCue, There
from halfpace.kinds import is_beat, is_below


def is_deed(choir, thing):
    """Tell whether a thing is a deed that could be done to a song of a choir."""
    if not isinstance(thing, tuple) or not thing or not isinstance(thing[0], str):
        return False
    word = thing[0]
    if word == "put":
        return len(thing) == 4 and _is_place(choir, thing) and is_below(thing[3], choir.notes())
    if word == "move":
        return len(thing) == 4 and _is_place(choir, thing) and is_beat(thing[3])
    if word == "take":
        return len(thing) == 3 and _is_place(choir, thing)
    if word == "breathe" or word == "flow":
        return len(thing) == 2 and is_beat(thing[1])
    return False


def _is_place(choir, thing):
    return is_beat(thing[1]) and isinstance(thing[2], str) and thing[2] in choir.names()


def done(song, deed):
    """The song behind a deed."""
    word = deed[0]
    if word == "put":
        return song.with_cue(deed[1], deed[2], deed[3])
    if word == "move":
        return _moved(song, deed[1], deed[2], deed[3])
    if word == "take":
        return song.without(deed[1], deed[2])
    if word == "breathe":
        return song.with_breath(deed[1])
    return song.without_breath(deed[1])


def _moved(song, beat, name, later):
    notes = {(cue[0], cue[1]): cue[2] for cue in song.cues()}
    if (beat, name) not in notes:
        raise NoCue(beat, name)
    if (later, name) in notes:
        raise There(later, name)
    return song.without(beat, name).with_cue(later, name, notes[(beat, name)])
