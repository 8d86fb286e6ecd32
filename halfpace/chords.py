"""Chords: some names with a note for each."""

from halfpace.kinds import is_below


def is_chord(choir, thing):
    """Tell whether a thing is a chord of a choir."""
    if not isinstance(thing, list):
        return False
    # What is left of the names for the parts to come.
    free = {name: True for name in choir.names()}
    for part in thing:
        if not _is_part(choir, part) or part[0] not in free:
            return False
        del free[part[0]]
    return True


def _is_part(choir, thing):
    if not isinstance(thing, tuple) or len(thing) != 2:
        return False
    return isinstance(thing[0], str) and is_below(thing[1], choir.notes())


def has(choir, standing, chord):
    """Tell whether a standing has a chord."""
    return all([standing[choir.place(name)] == note for name, note in chord])
