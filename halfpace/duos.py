"""Duos: two runs heard together, the other one a lag ahead; where they sound otherwise, and what shows it."""

from halfpace.braids import Braid
from halfpace.choirs import is_standing
from halfpace.kinds import are_rests
from halfpace.weaves import MOST, Weave, refuse_unlike

LAST_NUMBER = 10 ** 40


class Duo:
    """Two runs, unlike at each number behind which the one doesn't sound as the other does a lag later."""

    def __init__(self, one, other, *, lag=0, most=MOST):
        refuse_unlike(one.choir(), one.ear(), other.choir(), other.ear())
        self._one = one
        self._other = other
        self._lag = lag
        weave = Weave(one.choir(), one.ear(), other.choir(), other.ear())
        roots = (one.choir().number(one.root()), other.choir().number(other.root()))
        self._braid = Braid(weave, roots, lag, most)

    def lag(self):
        """How many beats the other run is ahead."""
        return self._lag

    def triples(self, level):
        """The sorted list of the triples that come at a level, (X, Y) without a lag."""
        return self._braid.told(self._braid.found(level))

    def is_unlike(self, wait):
        """Tell whether the two sound otherwise behind a wait."""
        return self._one.sounds(wait) != self._other.sounds(wait + self._lag)

    def many(self, upto):
        """How many numbers from 0 to this one, it too, the duo is unlike at."""
        return self._braid.tree().many_below(upto + 1)

    def unlike(self, number):
        """The number with so many unlike ones ahead of it that is one, None where there is none to 10 ** 40."""
        if number >= self.many(LAST_NUMBER):
            return None
        return self._braid.tree().numbered(number)

    def first(self, start):
        """The first number from this one on that the duo is unlike at, None where there is none."""
        tree = self._braid.tree()
        return tree.numbered(tree.many_below(start))

    def last(self):
        """("alike",), ("last", number), or ("again", lead, turn, tail) where the unlike numbers never end."""
        tree = self._braid.tree()
        again = tree.again()
        if again is not None:
            return ("again",) + again
        many = tree.all_many()
        return ("last", tree.numbered(many - 1)) if many > 0 else ("alike",)

    def is_again(self, lead, turn, tail):
        """Tell whether things are a lead, a turn and a tail that show that the unlike numbers never end."""
        braid = self._braid
        if not all([are_rests(part, self._one.choir().pace()) for part in (lead, turn, tail)]):
            return False
        if not lead or lead[0] == 0 or not turn or len(tail) < braid.base():
            return False
        base = braid.base()
        begun = braid.led(braid.zero(base), base + len(lead), lead)
        if braid.led(begun, base + len(turn), turn) != begun:
            return False
        return braid.is_unlike(braid.led(begun, len(tail), tail))

    def ladder(self, start):
        """The lists of triples that show that the duo is unlike at no number from this one on, None where it is."""
        braid = self._braid
        owed = braid.above(start)
        rows = [list(braid.found(braid.base()))]
        for level, places in zip(reversed(range(len(owed))), owed):
            rows.append(sorted(set(places + self._ways(rows[-1], level))))
        if not self._are_alike(start, rows[-1]):
            return None
        return [braid.told(row) for row in rows]

    def _ways(self, row, level):
        return [led for place in row for led in self._braid.ways(place, level)]

    def _are_alike(self, number, row):
        return not self.is_unlike(number) and not any([self._braid.is_unlike(place) for place in row])

    def is_ladder(self, start, thing):
        """Tell whether a thing is such a ladder."""
        braid = self._braid
        above = braid.above(start)
        if not isinstance(thing, list) or len(thing) != len(above) + 1:
            return False
        if not all([self._are_places(row) for row in thing]):
            return False
        rows = [{braid.place(told): True for told in row} for row in thing]
        # What stands in the first list leads into it again, what stands in another one into the next.
        owed = [braid.heads(braid.base()) + self._ways(rows[0], braid.base())]
        for level, places, row in zip(reversed(range(len(above))), above, rows):
            owed.append(places + self._ways(row, level))
        if not all([place in row for row, places in zip(rows, owed) for place in places]):
            return False
        return self._are_alike(start, rows[-1])

    def _are_places(self, thing):
        return isinstance(thing, list) and all([self._is_place(told) for told in thing])

    def _is_place(self, thing):
        if not isinstance(thing, tuple) or len(thing) != (3 if self._lag > 0 else 2):
            return False
        others = self._other.choir()
        return is_standing(self._one.choir(), thing[0]) and all([is_standing(others, part) for part in thing[1:]])
