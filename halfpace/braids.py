"""Two roots that lead on side by side, the other one some beats ahead: which pairs or triples come, and how."""

from halfpace.errors import TooMany
from halfpace.figures import figures_of
from halfpace.levels import Levels, Tree


class Braid:
    """The pairs, or with a lag the triples, of all numbers at each level."""

    def __init__(self, weave, roots, lag, most):
        # The roots go by their numbers, as in the weave.
        self._weave = weave
        self._most = most
        # How many rests the other choir is ahead at each level, the lowest first.
        self._shifts = figures_of(lag, weave.pace())[::-1]
        self._zeros = self._zeros_of(roots[0], roots[1])
        self._found = self._found_of()
        self._tree = None

    def base(self):
        """The level from which on all levels have the same ways: how many figures the lag has."""
        return len(self._shifts)

    def found(self, level):
        """A dict of the places of all numbers from 1 on at a level up to the base, by the order of their coming."""
        return self._found[level]

    def ways(self, place, level):
        """The places at a level to which one of the level above leads by each rest."""
        if not self._shifts:
            return self._weave.pair_ways(place)
        return self._weave.triple_ways(place, self._shifts[level] if level < len(self._shifts) else 0)

    def heads(self, level):
        """The places at a level of the numbers from 1 below the pace."""
        return self.ways(self.zero(level + 1), level)[1:]

    def told(self, places):
        """The sorted list of places, as tuples of standings."""
        if self._shifts:
            return [self._weave.told_triple(place) for place in sorted(places)]
        return [self._weave.told_pair(place) for place in sorted(places)]

    def place(self, told):
        """The place that is told as a tuple of standings."""
        if self._shifts:
            return self._weave.triple_of(told)
        return self._weave.pair_of(told)

    def led(self, place, level, rests):
        """The place to which one of a level leads by rests, one behind another, each one level down."""
        for rest in rests:
            level -= 1
            place = self.ways(place, level)[rest]
        return place

    def zero(self, level):
        """The place of 0 at a level."""
        return self._zeros[min(level, self.base())]

    def is_unlike(self, place):
        """Tell whether X and Y of a place sound otherwise."""
        return self._weave.is_unlike(self._weave.pair_in(place) if self._shifts else place)

    def tree(self):
        """The numbers from 0 on by their figures, with a mark where the two sound otherwise."""
        if self._tree is None:
            self._tree = self._tree_of()
        return self._tree

    def _zeros_of(self, one, other):
        # For each level up to the base the place of 0.
        pair = self._weave.pair(one, other)
        if not self._shifts:
            return [pair]
        _, later = self._weave.parts(self._weave.pair_ways(pair)[1])
        zeros = [self._weave.triple(one, other, later)]
        for shift in reversed(self._shifts):
            zeros.append(self._weave.zero_way(zeros[-1], shift))
        return zeros[::-1]

    def _found_of(self):
        found = [self._closed()]
        for level in reversed(range(self.base())):
            coming = {}
            self._put(coming, self.heads(level))
            for place in found[-1]:
                self._put(coming, self.ways(place, level))
            found.append(coming)
        return found[::-1]

    def _closed(self):
        # At the base and above it the places lead to one another.
        closed = {}
        waiting = self._put(closed, self.heads(self.base()))
        while waiting:
            place = waiting.pop()
            waiting.extend(self._put(closed, self.ways(place, self.base())))
        return closed

    def _put(self, found, places):
        # The places that were not there yet.
        new = []
        for place in places:
            if place not in found:
                found[place] = len(found)
                new.append(place)
        if len(found) > self._most:
            raise TooMany(self._most)
        return new

    def _tree_of(self):
        base = self.base()
        marks = [int(self.is_unlike(place)) for place in self._found[0]]
        levels = Levels([self._columns(level) for level in range(base)], self._columns(base), marks)
        heads = []
        for level, found in enumerate(self._found):
            heads.append([found[place] for place in self.heads(level)])
        return Tree(levels, heads, int(self.is_unlike(self._zeros[0])))

    def _columns(self, level):
        # By the order of their coming: where those of the level above lead by each rest.
        below = self._found[level]
        above = self._found[min(level + 1, self.base())]
        rows = [[below[led] for led in self.ways(place, level)] for place in above]
        return [[row[rest] for row in rows] for rest in range(self._weave.pace())]

    def above(self, number):
        """For each level down to 0, of the base or of the number's figures: the places of those of its row above it."""
        figures = figures_of(number, self._weave.pace())
        figures = [0] * (self.base() - len(figures)) + figures
        rows = []
        begun = False
        place = self.zero(len(figures))
        for level, figure in zip(reversed(range(len(figures))), figures):
            row = self.ways(place, level)
            begun = begun or figure > 0
            # Ahead of its first figure the number is 0, which leads to 0 by the rest 0.
            place = row[figure] if begun else self.zero(level)
            rows.append(row[figure + 1:])
        return rows
