"""By how many beats, with waits and hands by turns, roots come to a mark, and by which row."""

from halfpace.choirs import standings
from halfpace.songs import put


def puts(choir, notes):
    """For each standing of a choir, by numbers, the one in which the voices of some (name, note) sing these."""
    return [choir.number(put(choir, standing, notes)) for standing in standings(choir)]


def trail_of(root, reached):
    """A dict of the places to which a root comes, each with its least wait, itself with 0."""
    trail = {root: 0}
    for place, wait in reached:
        if place not in trail:
            trail[place] = wait
    return trail


class Tolls:
    """For each number of hands, the least beats by which each root comes to a mark with so many hands at most."""

    def __init__(self, trails, hands, marks, most):
        # Each root has its trail; each hand has for each place on a trail the root that it
        # makes of it. Where most is None, hands are let until more of them help no root.
        self._trails = trails
        self._hands = hands
        self._places = list({place: True for trail in trails.values() for place in trail})
        self._tolls = [self._first(marks)]
        best = {}
        fresh = self._fresh(best)
        while fresh and (most is None or len(self._tolls) <= most):
            self._tolls.append(self._one_more(fresh))
            fresh = self._fresh(best)
        while most is not None and len(self._tolls) <= most:
            self._tolls.append(self._tolls[-1])

    def _first(self, marks):
        first = {}
        for root, trail in self._trails.items():
            first[root] = _least([wait for place, wait in trail.items() if marks[place]])
        return first

    def _fresh(self, best):
        # The places from which a hand, by the last tolls, leads sooner than any did yet.
        last = self._tolls[-1]
        fresh = {}
        for place in self._places:
            for hand in self._hands:
                beats = last[hand[place]]
                if beats is not None and (place not in best or beats < best[place]):
                    best[place] = beats
                    fresh[place] = beats
        return fresh

    def _one_more(self, fresh):
        last = self._tolls[-1]
        told = {}
        for root, trail in self._trails.items():
            coming = [trail[place] + beats for place, beats in fresh.items() if place in trail]
            told[root] = _least(coming if last[root] is None else coming + [last[root]])
        return told

    def tolls(self, root):
        """For each number of hands the least beats from a root, None where it comes to no mark."""
        return [toll[root] for toll in self._tolls]

    def cost(self, root):
        """The least beats from a root and the fewest hands of so many beats, None and None where it never comes."""
        beats = self._tolls[-1][root]
        return (beats, None if beats is None else self._fewest(root, beats))

    def _fewest(self, root, beats):
        many = 0
        while self._tolls[many][root] != beats:
            many += 1
        return many

    def row(self, root):
        """The row of waits and ("hand", place) of just so many beats and hands, from a root that comes to a mark."""
        row = []
        beats, many = self.cost(root)
        while many > 0:
            wait, hand, root = self._step(root, beats, self._tolls[many - 1])
            row.extend([wait] if wait > 0 else [])
            row.append(("hand", hand))
            beats = beats - wait
            many = self._fewest(root, beats)
        return row + ([beats] if beats > 0 else [])

    def _step(self, root, beats, behind):
        # A wait, a hand, and the root that comes by them, which has just so many beats less to go.
        steps = []
        for place, wait in self._trails[root].items():
            for at, hand in enumerate(self._hands):
                if behind[hand[place]] == beats - wait:
                    steps.append((wait, at, hand[place]))
        return steps[0]


def _least(things):
    return min(things) if things else None
