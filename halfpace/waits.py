"""To which standings a root comes, behind which waits, and how soon to a chord."""

from halfpace.choirs import is_standing, standings
from halfpace.kinds import is_whole


def waits(choir, root):
    """The list of (standing, wait): where a root comes behind waits from 1 on, the least each, rising."""
    told = standings(choir)
    return [(told[number], wait) for number, wait in choir.reached(choir.number(root))]


def are_waits(choir, root, thing):
    """Tell whether a thing is the list of the waits of a root."""
    if not isinstance(thing, list) or not all([_is_pair(choir, pair) for pair in thing]):
        return False
    # What a reader would look at (each wait comes from another one in the list, none less
    # comes) holds of this list alone.
    return thing == waits(choir, root)


def _is_pair(choir, thing):
    if not isinstance(thing, tuple) or len(thing) != 2:
        return False
    return is_standing(choir, thing[0]) and is_whole(thing[1])


def wait_for(choir, root, start, chord):
    """The least wait from start on behind which a root has come to a chord, None where there is none."""
    tree = choir.tree(root, chord)
    return tree.numbered(tree.many_below(start))
