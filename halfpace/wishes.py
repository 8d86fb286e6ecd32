"""Wishes: how soon, with so many hands, a chord comes, by which row, and what shows that it doesn't come sooner."""

from halfpace.chords import has
from halfpace.choirs import standings
from halfpace.kinds import is_same
from halfpace.reach import reached_from
from halfpace.tolls import Tolls, puts, trail_of

# What goes on from now is a root of its own: no standing has this number.
NOW = -1


def soonest(choir, root, wait, chord, hands, most_hands):
    """For each number of hands from 0 to most_hands the least beats from now to the chord, or None."""
    return _tolls(choir, _now(choir, root, wait), chord, hands, most_hands).tolls(NOW)


def soonest_row(choir, root, wait, chord, hands, most_hands):
    """("row", row of waits and hands) to the chord, or ("never", list of the standings that come)."""
    now = _now(choir, root, wait)
    tolls = _tolls(choir, now, chord, hands, most_hands)
    if tolls.tolls(NOW)[-1] is not None:
        return ("row", tolls.row(NOW))
    told = standings(choir)
    return ("never", [told[number] for number in sorted(now)])


def prices(choir, chord, hands, most_hands):
    """For each number of hands from 0 to most_hands the sorted list of (root, least beats to the chord)."""
    tolls = _tolls(choir, {}, chord, hands, most_hands)
    rows = [[] for _ in range(most_hands + 1)]
    for number, root in enumerate(standings(choir)):
        for row, beats in zip(rows, tolls.tolls(number)):
            row.append((root, beats))
    return rows


def are_prices(choir, chord, hands, most_hands, thing):
    """Tell whether a thing is the list of the prices."""
    return is_same(thing, prices(choir, chord, hands, most_hands))


def _now(choir, root, wait):
    # Where the root comes from the wait on, each with the least beats from now on.
    return {number: least - wait for number, least in reached_from(choir.steps(), choir.number(root), wait)}


def _tolls(choir, now, chord, hands, most_hands):
    marks = [has(choir, standing, chord) for standing in standings(choir)]
    trails = {number: trail_of(number, choir.reached(number)) for number in range(len(marks))}
    trails[NOW] = now
    return Tolls(trails, [puts(choir, hand) for hand in hands], marks, most_hands)
