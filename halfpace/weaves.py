"""Two choirs of one pace side by side, each heard by an ear: where their standings lead together."""

from halfpace.choirs import standings
from halfpace.ears import heard
from halfpace.errors import Unlike

MOST = 400


def refuse_unlike(one, ear, other, other_ear):
    """Refuse two choirs of unlike paces, or ears of unlike lengths."""
    if one.pace() != other.pace() or len(ear) != len(other_ear):
        raise Unlike()


class Weave:
    """Where pairs (X, Y) and triples (X, Y, Z) of standings lead, X of the one choir, Y and Z of the other.

    Standings go by their numbers here, and so do pairs and triples, in the order in which
    Python sorts them.
    """

    def __init__(self, one, ear, other, other_ear):
        self._pace = one.pace()
        self._one = one
        self._other = other
        self._ones = one.steps()
        self._others = other.steps()
        self._size = len(self._others)
        self._standings = standings(one)
        self._other_standings = standings(other)
        self._sounds = [heard(one, standing, ear) for standing in self._standings]
        self._other_sounds = [heard(other, standing, other_ear) for standing in self._other_standings]
        self._pair_ways = {}
        self._triple_ways = {}

    def pace(self):
        """The pace of both choirs."""
        return self._pace

    def pair(self, one, other):
        """The pair of two standings."""
        return one * self._size + other

    def parts(self, pair):
        """The two standings of a pair."""
        return divmod(pair, self._size)

    def triple(self, one, other, later):
        """The triple of three standings."""
        return (one * self._size + other) * self._size + later

    def pair_in(self, triple):
        """The pair with which a triple begins."""
        return triple // self._size

    def pair_ways(self, pair):
        """The pairs to which a pair leads by each rest."""
        if pair not in self._pair_ways:
            one, other = divmod(pair, self._size)
            self._pair_ways[pair] = self._pairs(one, other)
        return self._pair_ways[pair]

    def _pairs(self, one, other):
        return [self.pair(led, other_led) for led, other_led in zip(self._ones[one], self._others[other])]

    def triple_ways(self, triple, shift):
        """The triples to which a triple leads by each rest, the other choir being shift rests ahead."""
        key = triple * self._pace + shift
        if key not in self._triple_ways:
            pair, later = divmod(triple, self._size)
            one, other = divmod(pair, self._size)
            self._triple_ways[key] = self._triples(self._ones[one], self._row(other, later, shift))
        return self._triple_ways[key]

    def zero_way(self, triple, shift):
        """The triple to which one leads whose first standing, a root's, leads nowhere by the rest 0."""
        pair, later = divmod(triple, self._size)
        one, other = divmod(pair, self._size)
        return self._triples([one], self._row(other, later, shift))[0]

    def _row(self, other, later, shift):
        # Where the other choir comes by as many rests as the shift, by one more, and so on;
        # behind the greatest rest the later standing leads on.
        return self._others[other][shift:] + self._others[later][:shift + 1]

    def _triples(self, ones, row):
        return [self.triple(one, other, later) for one, other, later in zip(ones, row, row[1:])]

    def is_unlike(self, pair):
        """Tell whether the two standings of a pair sound otherwise."""
        one, other = divmod(pair, self._size)
        return self._sounds[one] != self._other_sounds[other]

    def pair_of(self, told):
        """The pair that is told as a tuple (X, Y) of standings."""
        return self.pair(self._one.number(told[0]), self._other.number(told[1]))

    def triple_of(self, told):
        """The triple that is told as a tuple (X, Y, Z) of standings."""
        return self.pair_of(told) * self._size + self._other.number(told[2])

    def told_pair(self, pair):
        """The tuple (X, Y) of a pair."""
        one, other = divmod(pair, self._size)
        return (self._standings[one], self._other_standings[other])

    def told_triple(self, triple):
        """The tuple (X, Y, Z) of a triple."""
        pair, later = divmod(triple, self._size)
        return self.told_pair(pair) + (self._other_standings[later],)
