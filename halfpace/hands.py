"""Hands: by waits and hands, done by turns, two runs are told apart, or shown to sound alike."""

from halfpace.choirs import is_standing
from halfpace.ears import heard
from halfpace.kinds import is_below, is_whole
from halfpace.meetings import Meeting, of_side
from halfpace.songs import put
from halfpace.weaves import MOST, refuse_unlike


def told_apart(one, other, hands, *, most=MOST):
    """("alike", list of the pairs that come), or ("apart", row of waits and hands)."""
    refuse_unlike(one.choir(), one.ear(), other.choir(), other.ear())
    meeting = Meeting(one, other, hands)
    found = meeting.found(most)
    if any([meeting.is_unlike(pair) for _, pair in found]):
        _, root = meeting.begin()
        return ("apart", meeting.tolls(found).row(root))
    return ("alike", [(begun,) + meeting.told_pair(pair) for begun, pair in found])


def are_pairs(one, other, hands, thing):
    """Tell whether a thing is a list of pairs that shows that two runs sound alike under all hands."""
    if one.choir().pace() != other.choir().pace() or not isinstance(thing, list):
        return False
    if not all([_is_pair(one.choir(), other.choir(), part) for part in thing]):
        return False
    meeting = Meeting(one, other, hands)
    parts = {meeting.part(told): True for told in thing}
    if meeting.begin() not in parts or any([meeting.is_unlike(pair) for _, pair in parts]):
        return False
    return all([part in parts for begun, pair in parts for part in meeting.coming(begun, pair)])


def _is_pair(choir, other_choir, thing):
    if not isinstance(thing, tuple) or len(thing) != 3:
        return False
    begun, one, other = thing
    return isinstance(begun, bool) and is_standing(choir, one) and is_standing(other_choir, other)


def is_parting(one, other, hands, thing):
    """Tell whether a thing is a row of waits and hands behind which two runs sound otherwise."""
    if not _is_row(thing, len(hands)):
        return False
    standing = one.root()
    other_standing = other.root()
    for part in thing:
        if is_whole(part):
            standing = one.choir().behind(standing, part)
            other_standing = other.choir().behind(other_standing, part)
        else:
            standing = put(one.choir(), standing, of_side(hands[part[1]], 0))
            other_standing = put(other.choir(), other_standing, of_side(hands[part[1]], 1))
    return heard(one.choir(), standing, one.ear()) != heard(other.choir(), other_standing, other.ear())


def _is_row(thing, many):
    if not isinstance(thing, list):
        return False
    was_wait = False
    for part in thing:
        if is_whole(part):
            if part < 1 or was_wait:
                return False
        elif not _is_hand(part, many):
            return False
        was_wait = is_whole(part)
    return True


def _is_hand(thing, many):
    if not isinstance(thing, tuple) or len(thing) != 2:
        return False
    return isinstance(thing[0], str) and thing[0] == "hand" and is_below(thing[1], many)
