"""Two runs under the same hands: which pairs of standings come, and how soon roots are told apart."""

from halfpace.errors import TooMany
from halfpace.reach import reached
from halfpace.tolls import Tolls, puts, trail_of
from halfpace.weaves import Weave


class Meeting:
    """Pairs (begun, pair): as roots, not begun, and as what is sung behind a wait."""

    def __init__(self, one, other, hands):
        choir = one.choir()
        other_choir = other.choir()
        self._weave = Weave(choir, one.ear(), other_choir, other.ear())
        self._root = self._weave.pair_of((one.root(), other.root()))
        self._puts = [(puts(choir, of_side(hand, 0)), puts(other_choir, of_side(hand, 1))) for hand in hands]

    def begin(self):
        """The roots of the two runs."""
        return (False, self._root)

    def coming(self, begun, pair):
        """What comes from one by each rest, and as roots by each hand."""
        ways = self._weave.pair_ways(pair)
        coming = [(True, led) for led in (ways if begun else ways[1:])]
        return coming + [(False, self._put(place, pair)) for place in range(len(self._puts))]

    def _put(self, place, pair):
        one, other = self._weave.parts(pair)
        ones, others = self._puts[place]
        return self._weave.pair(ones[one], others[other])

    def found(self, most):
        """The sorted list of all that come, the roots of the runs too; refused where they are more than most."""
        found = {self.begin(): True}
        waiting = [self.begin()]
        while waiting:
            begun, pair = waiting.pop()
            for part in self.coming(begun, pair):
                if part not in found:
                    found[part] = True
                    waiting.append(part)
            if len(found) > most:
                raise TooMany(most)
        return sorted(found)

    def is_unlike(self, pair):
        """Tell whether the two standings of a pair sound otherwise."""
        return self._weave.is_unlike(pair)

    def told_pair(self, pair):
        """The two standings of a pair."""
        return self._weave.told_pair(pair)

    def part(self, told):
        """What is told so."""
        return (told[0], self._weave.pair_of(told[1:]))

    def tolls(self, found):
        """By how many beats and hands each pair of roots found is told apart."""
        ways = {pair: self._weave.pair_ways(pair) for _, pair in found}
        trails = {pair: trail_of(pair, reached(ways, pair)) for begun, pair in found if not begun}
        hands = [{pair: self._put(place, pair) for pair in ways} for place in range(len(self._puts))]
        return Tolls(trails, hands, {pair: self.is_unlike(pair) for pair in ways}, None)


def of_side(hand, side):
    """What a hand has of one of the two runs, as (name, note)."""
    return [(name, note) for other, name, note in hand if other == side]
