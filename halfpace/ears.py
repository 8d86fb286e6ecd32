"""Ears, through which standings sound, and runs: a choir that sings from a root on, heard by an ear."""

from halfpace.choirs import Choir, is_standing
from halfpace.errors import Wrong
from halfpace.kinds import is_below

MOST_HEARD = 6
SOUNDS = 10


def is_ear(choir, thing):
    """Tell whether a thing is an ear of a choir."""
    if not isinstance(thing, list) or not 1 <= len(thing) <= MOST_HEARD:
        return False
    return all([_is_heard(choir, part) for part in thing])


def _is_heard(choir, thing):
    if not isinstance(thing, tuple) or len(thing) != 2:
        return False
    name, sounds = thing
    return isinstance(name, str) and name in choir.names() and _are_sounds(choir, sounds)


def _are_sounds(choir, thing):
    if not isinstance(thing, tuple) or len(thing) != choir.notes():
        return False
    return all([is_below(sound, SOUNDS) for sound in thing])


def heard(choir, standing, ear):
    """The tuple of the sounds of a standing through an ear."""
    return tuple([sounds[standing[choir.place(name)]] for name, sounds in ear])


class Run:
    """A choir, a root and an ear."""

    def __init__(self, choir, root, ear):
        if not isinstance(choir, Choir):
            raise Wrong(0)
        if not is_standing(choir, root):
            raise Wrong(1)
        if not is_ear(choir, ear):
            raise Wrong(2)
        self._choir = choir
        self._root = root
        self._ear = list(ear)

    def choir(self):
        """The choir that sings."""
        return self._choir

    def root(self):
        """The standing from which on it sings."""
        return self._root

    def ear(self):
        """The list of (name, sounds) by which it is heard."""
        return list(self._ear)

    def sounds(self, wait):
        """The tuple of the sounds behind a wait."""
        return heard(self._choir, self._choir.behind(self._root, wait), self._ear)
