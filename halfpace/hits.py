"""Hits: the beats at which a song has a chord, how many there are, and what shows that they never end, or end."""

from halfpace.choirs import is_standing
from halfpace.chords import has
from halfpace.figures import figures_of
from halfpace.kinds import are_rests
from halfpace.waits import waits

LAST_HIT = 10 ** 40


def hits(song, chord, upto):
    """How many hits there are from beat 0 to a beat, that one too."""
    choir = song.choir()
    return sum([choir.tree(root, chord).many_below(last + 1) for _, root, last in _parts(song, upto)])


def _parts(song, upto):
    # For each root beat to a beat: it, what is sung there, and the last wait of that part.
    roots = [root for root in song.roots() if root[0] <= upto]
    ends = [root[0] - 1 for root in roots[1:]] + [upto]
    return [(root[0], root[1], end - root[0]) for root, end in zip(roots, ends)]


def hit(song, chord, number):
    """The hit of a number, counted from 0, None where there are not so many to the beat 10 ** 40."""
    for beat, root, last in _parts(song, LAST_HIT):
        tree = song.choir().tree(root, chord)
        many = tree.many_below(last + 1)
        if number < many:
            return beat + tree.numbered(number)
        number = number - many
    return None


def first_hit(song, chord, start):
    """The first hit from a beat on, None where there is none."""
    final = song.roots()[-1][0]
    for beat, root, last in _parts(song, max(start, final)):
        if start <= beat + last:
            tree = song.choir().tree(root, chord)
            ahead = tree.many_below(max(0, start - beat))
            # All parts but the final one end.
            if beat == final or ahead < tree.many_below(last + 1):
                wait = tree.numbered(ahead)
                return None if wait is None else beat + wait
    return None


def all_hits(song, chord):
    """How many hits there are at all, None where they never end."""
    beat, root = song.roots()[-1]
    many = song.choir().tree(root, chord).all_many()
    if many is None or beat == 0:
        return many
    return hits(song, chord, beat - 1) + many


def turn_of(song, chord):
    """A (lead, turn, tail) that shows that the hits never end, None where they end."""
    return song.choir().tree(song.roots()[-1][1], chord).again()


def is_turn(song, chord, thing):
    """Tell whether a thing is a (lead, turn, tail) that shows that the hits never end."""
    choir = song.choir()
    if not isinstance(thing, tuple) or len(thing) != 3:
        return False
    if not all([are_rests(part, choir.pace()) for part in thing]):
        return False
    lead, turn, tail = thing
    if not lead or lead[0] == 0 or not turn:
        return False
    begun = _led_by(choir, song.roots()[-1][1], lead)
    return _led_by(choir, begun, turn) == begun and has(choir, _led_by(choir, begun, tail), chord)


def _led_by(choir, standing, rests):
    for rest in rests:
        standing = choir.led(standing, rest)
    return standing


def ladder(song, chord, start):
    """The list of lists of standings that shows that no hit is at a beat or behind, None where there is one."""
    choir = song.choir()
    beat, root = song.roots()[-1]
    rows = [sorted([standing for standing, _ in waits(choir, root)])]
    for above in _ways_above(choir, root, figures_of(start - beat, choir.pace())):
        rows.append(sorted(set(above + _ways(choir, rows[-1]))))
    if not _are_without(choir, rows[-1] + [song.standing(start)], chord):
        return None
    return rows


def _ways_above(choir, root, figures):
    # For each figure: where what the root has come to by those ahead leads by each rest above it.
    rows = []
    standing = root
    for figure in figures:
        rows.append([choir.led(standing, rest) for rest in range(figure + 1, choir.pace())])
        standing = choir.led(standing, figure)
    return rows


def _ways(choir, row):
    return [choir.led(standing, rest) for standing in row for rest in range(choir.pace())]


def _are_without(choir, row, chord):
    return not any([has(choir, standing, chord) for standing in row])


def is_ladder(song, chord, start, thing):
    """Tell whether a thing is a ladder that shows that no hit is at a beat or behind."""
    choir = song.choir()
    beat, root = song.roots()[-1]
    figures = figures_of(start - beat, choir.pace())
    if not isinstance(thing, list) or len(thing) != len(figures) + 1:
        return False
    if not all([_are_standings(choir, row) for row in thing]):
        return False
    rows = [{standing: True for standing in row} for row in thing]
    owed = _ways_above(choir, root, [0]) + _ways_above(choir, root, figures)
    # What stands in the first list leads into it again, what stands in another one into the next.
    for row, ahead, above in zip(rows, rows[:1] + rows, owed):
        if not all([standing in row for standing in above + _ways(choir, ahead)]):
            return False
    return _are_without(choir, list(rows[-1]) + [song.standing(start)], chord)


def _are_standings(choir, thing):
    return isinstance(thing, list) and all([is_standing(choir, standing) for standing in thing])
