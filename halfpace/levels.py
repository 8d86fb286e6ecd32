"""Numbers laid out by their figures: how many of them lead to a mark, and which ones."""

from halfpace.figures import figures_of, number_of


class Levels:
    """From each place of a level, how many rows of rests lead to a mark, with a rest for each level down to 0."""

    def __init__(self, lower, high, marks):
        # lower[k] are the columns by which level k + 1 leads to level k; at all levels above
        # the high ones do. A column has for each place the one to which it leads by one rest.
        self._lower = lower
        self._high = high
        self._counts = [marks]

    def base(self):
        """The lowest level from which on all levels have the same places."""
        return len(self._lower)

    def places(self):
        """How many places the levels from the base on have."""
        return len(self._high[0])

    def columns(self, level):
        """The columns by which the level above this one leads to it."""
        return self._lower[level] if level < len(self._lower) else self._high

    def counts(self, level):
        """For each place of a level, how many rows lead from it to a mark."""
        while len(self._counts) <= level:
            last = self._counts[-1]
            if len(self._counts) > len(self._lower) and not any(last):
                return last
            self._counts.append(_sums(last, self.columns(len(self._counts) - 1)))
        return self._counts[level]


def _sums(counts, columns):
    sums = [counts[place] for place in columns[0]]
    for column in columns[1:]:
        sums = [many + counts[place] for many, place in zip(sums, column)]
    return sums


class Tree:
    """The numbers from 0 on: each figure leads one level down, the last one to a mark or to none."""

    def __init__(self, levels, heads, marked):
        # heads[k] are the places at level k of the numbers from 1 below the pace, the last
        # heads those of all levels above, too; marked is 1 where 0 has a mark, else 0.
        self._levels = levels
        self._heads = heads
        self._marked = marked
        self._pace = len(heads[0]) + 1

    def many_below(self, limit):
        """How many numbers below this one lead to a mark."""
        figures = figures_of(limit, self._pace)
        if not figures:
            return 0
        top = len(figures) - 1
        many = self._marked
        for level in range(top):
            many += self._many_at(level)
        heads = self._heads_at(top)
        many += self._many_of(top, heads[:figures[0] - 1])
        place = heads[figures[0] - 1]
        for level, figure in zip(reversed(range(top)), figures[1:]):
            columns = self._levels.columns(level)
            many += self._many_of(level, [column[place] for column in columns[:figure]])
            place = columns[figure][place]
        return many

    def _heads_at(self, level):
        return self._heads[min(level, len(self._heads) - 1)]

    def _many_at(self, level):
        return self._many_of(level, self._heads_at(level))

    def _many_of(self, level, places):
        counts = self._levels.counts(level)
        return sum([counts[place] for place in places])

    def numbered(self, number):
        """The number with so many ahead of it that lead to a mark, as it does, None where there is none."""
        if number < self._marked:
            return 0
        number = number - self._marked
        level = 0
        seen = self._levels.base()
        # A place that is passed twice can be passed once: where as many levels as there are
        # places have no mark, none above has one. Nor has one where a whole level has none.
        while level - seen <= self._levels.places() and any(self._levels.counts(level)):
            many = self._many_at(level)
            if number < many:
                return self._down(level, number)
            number = number - many
            seen = level if many > 0 and level > seen else seen
            level += 1
        return None

    def _down(self, top, number):
        # The number of top + 1 figures with so many of as many figures ahead of it.
        row = self._heads_at(top)
        figures = []
        for level in reversed(range(top + 1)):
            counts = self._levels.counts(level)
            rest = 0
            while number >= counts[row[rest]]:
                number = number - counts[row[rest]]
                rest += 1
            figures.append(rest)
            if level > 0:
                row = [column[row[rest]] for column in self._levels.columns(level - 1)]
        # The heads begin with that of 1.
        figures[0] += 1
        return number_of(figures, self._pace)

    def all_many(self):
        """How many numbers lead to a mark, None where they never end."""
        many = self.many_below(self._far())
        return many if self.numbered(many) is None else None

    def _far(self):
        # The least number whose figures surely pass a place twice, at levels from the base on.
        return number_of([1] + [0] * (self._levels.base() + self._levels.places()), self._pace)

    def again(self):
        """(lead, turn, tail): figures that lead to a mark, turn as often as one likes; None where they end."""
        number = self.numbered(self.many_below(self._far()))
        if number is None:
            return None
        figures = figures_of(number, self._pace)
        columns = self._levels.columns(self._levels.base())
        place = self._heads[-1][figures[0] - 1]
        ends = {}
        end = 1
        while place not in ends:
            ends[place] = end
            place = columns[figures[end]][place]
            end += 1
        begin = ends[place]
        return (figures[:begin], figures[begin:end], figures[end:])
