"""Partings: for all pairs of roots that come of two runs, how soon, and with how few hands, they are told apart."""

from halfpace.kinds import is_same
from halfpace.meetings import Meeting
from halfpace.weaves import MOST, refuse_unlike


def partings(one, other, hands, *, most=MOST):
    """The sorted list of (one, other, beats, many), beats and many None where nothing parts the two roots."""
    refuse_unlike(one.choir(), one.ear(), other.choir(), other.ear())
    meeting = Meeting(one, other, hands)
    found = meeting.found(most)
    tolls = meeting.tolls(found)
    return [meeting.told_pair(pair) + tolls.cost(pair) for begun, pair in found if not begun]


def are_partings(one, other, hands, thing, *, most=MOST):
    """Tell whether a thing is the list of the partings."""
    return is_same(thing, partings(one, other, hands, most=most))
