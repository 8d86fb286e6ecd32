"""What kind of thing is handed in, whatever it is."""

LAST_BEAT = 10 ** 18
LONGEST_NAME = 8
LEAST_PACE = 2
GREATEST_PACE = 4


def is_whole(thing):
    """Tell whether a thing is a whole number."""
    # To Python True and False are numbers, too; here they are none.
    return isinstance(thing, int) and not isinstance(thing, bool)


def is_below(thing, limit):
    """Tell whether a thing is a number from 0 below a limit, as rests and notes are."""
    return is_whole(thing) and 0 <= thing < limit


def are_rests(thing, pace):
    """Tell whether a thing is a list of rests of a pace."""
    return isinstance(thing, list) and all([is_below(rest, pace) for rest in thing])


def is_beat(thing):
    """Tell whether a thing is a beat."""
    return is_whole(thing) and 0 <= thing <= LAST_BEAT


def is_name(thing):
    """Tell whether a thing is a name."""
    return isinstance(thing, str) and 1 <= len(thing) <= LONGEST_NAME and _is_small(thing)


def _is_small(text):
    # islower() and the like would let letters from beyond a to z pass.
    return all(["a" <= sign <= "z" for sign in text])


def is_pace(thing):
    """Tell whether a thing is a pace."""
    return is_whole(thing) and LEAST_PACE <= thing <= GREATEST_PACE


def is_same(thing, told):
    """Tell whether a thing is what is told, a number, None, or a list or tuple of such, part by part of one kind."""
    if isinstance(told, list):
        return isinstance(thing, list) and _are_same(thing, told)
    if isinstance(told, tuple):
        return isinstance(thing, tuple) and _are_same(thing, told)
    if told is None:
        return thing is None
    return is_whole(thing) and thing == told


def _are_same(things, told):
    return len(things) == len(told) and all([is_same(thing, other) for thing, other in zip(things, told)])
