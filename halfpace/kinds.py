"""What kind of thing is handed in, whatever it is."""

LAST_BEAT = 10 ** 18
LONGEST_NAME = 8
LEAST_PACE = 2
GREATEST_PACE = 4


def is_whole(thing):
    """Tell whether a thing is a whole number."""
    # To Python True and False are numbers, too; here they are none.
    return isinstance(thing, int) and not isinstance(thing, bool)


def is_below(thing, limit):
    """Tell whether a thing is a number from 0 below a limit, as rests and notes are."""
    return is_whole(thing) and 0 <= thing < limit


def is_beat(thing):
    """Tell whether a thing is a beat."""
    return is_whole(thing) and 0 <= thing <= LAST_BEAT


def is_name(thing):
    """Tell whether a thing is a name."""
    return isinstance(thing, str) and 1 <= len(thing) <= LONGEST_NAME and _is_small(thing)


def _is_small(text):
    # islower() and the like would let letters from beyond a to z pass.
    return all(["a" <= sign <= "z" for sign in text])


def is_pace(thing):
    """Tell whether a thing is a pace."""
    return is_whole(thing) and LEAST_PACE <= thing <= GREATEST_PACE
