"""Hearsay: which first standings of a song agree with what was heard, and what bars them where none does."""

from halfpace.errors import NoNumber
from halfpace.kinds import is_below
from halfpace.roads import road, road_table


def left(song, heard):
    """For each voice, as names are sorted, the sorted list of the notes that are left to it."""
    return _left(song.choir(), _lets(song, heard))


def agree_many(song, heard):
    """How many first standings agree with what was heard."""
    return _many(left(song, heard))


def agreeing(song, heard, number):
    """The first standing of a number, as Python sorts them, of those that agree."""
    rows = left(song, heard)
    if number >= _many(rows):
        raise NoNumber(number)
    standing = ()
    for row in rows[::-1]:
        number, at = divmod(number, len(row))
        standing = (row[at],) + standing
    return standing


def bar(song, heard):
    """The numbers of some heard ones with which together no first standing agrees, None where some agree with all."""
    lets = _lets(song, heard)
    if not _is_barred(song.choir(), lets):
        return None
    alone = [at for at, (_, notes) in enumerate(lets) if not notes]
    if alone:
        return alone[:1]
    chosen = list(range(len(lets)))
    for at in range(len(lets)):
        fewer = [other for other in chosen if other != at]
        if _is_barred(song.choir(), [lets[other] for other in fewer]):
            chosen = fewer
    return chosen


def is_bar(song, heard, thing):
    """Tell whether a thing is a list of such numbers, rising, of which no one can be left out."""
    if not isinstance(thing, list) or not all([is_below(at, len(heard)) for at in thing]):
        return False
    if thing != sorted(set(thing)):
        return False
    lets = _lets(song, heard)
    chosen = [lets[at] for at in thing]
    if not _is_barred(song.choir(), chosen):
        return False
    fewer = [chosen[:place] + chosen[place + 1:] for place in range(len(chosen))]
    return not any([_is_barred(song.choir(), others) for others in fewer])


def _lets(song, heard):
    cued = {(beat, name): note for beat, name, note in song.cues()}
    return [_let(song, cued, beat, name, note) for beat, name, note in heard]


def _let(song, cued, beat, name, note):
    # The voice on whose first note it hangs what is heard, None where it hangs on a cue;
    # and the first notes that let it be heard, any of them where the cue does.
    source = road(song, beat, name)[-1]
    table = road_table(song, beat, name)
    if source in cued:
        return (None, list(range(len(table))) if table[cued[source]] == note else [])
    return (source[1], [first for first, sung in enumerate(table) if sung == note])


def _left(choir, lets):
    if not all([notes for _, notes in lets]):
        return [[] for _ in choir.names()]
    return [_left_to(choir, name, lets) for name in choir.names()]


def _left_to(choir, name, lets):
    rows = [notes for other, notes in lets if other == name]
    return [note for note in range(choir.notes()) if all([note in row for row in rows])]


def _many(rows):
    many = 1
    for row in rows:
        many = many * len(row)
    return many


def _is_barred(choir, lets):
    return _many(_left(choir, lets)) == 0
