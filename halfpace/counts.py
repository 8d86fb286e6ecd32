"""How many waits lead a root to a chord, which one has a number, and which is the least."""

from halfpace.choirs import standings
from halfpace.chords import has
from halfpace.figures import figures_of, number_of


def counts(choir, chord, most):
    """For each length from 0 to most a dict: how many rows of so many rests lead a standing to the chord."""
    levels = [{standing: int(has(choir, standing, chord)) for standing in standings(choir)}]
    for _ in range(most):
        levels.append(_one_longer(choir, levels[-1]))
    return levels


def _one_longer(choir, level):
    return {standing: _many_by(choir, level, standing, 0, choir.pace()) for standing in level}


def _many_by(choir, level, standing, low, high):
    # Of the rows that begin with a rest from low below high.
    return sum([level[choir.led(standing, rest)] for rest in range(low, high)])


def counts_from(choir, chord, start):
    """The counts of the lengths that least_from needs for this start, or a lower one."""
    # Of the standings passed by a longer row at least one is passed twice, and what is
    # between can be left out, as often as it takes to have no more figures than this.
    return counts(choir, chord, len(figures_of(start, choir.pace())) + len(standings(choir)))


def many_to(choir, levels, root, wait):
    """How many waits from 0 to this one, it too, lead a root to the chord."""
    figures = figures_of(wait, choir.pace())
    many = levels[0][root]
    for level in levels[:max(0, len(figures) - 1)]:
        many += _many_by(choir, level, root, 1, choir.pace())
    standing = root
    low = 1
    for level, figure in zip(reversed(levels[:len(figures)]), figures):
        many += _many_by(choir, level, standing, low, figure)
        standing = choir.led(standing, figure)
        low = 0
    return many + (levels[0][standing] if figures else 0)


def wait_of(choir, levels, root, number):
    """The wait of a number, counted from 0, of those that lead a root to the chord, where there are so many."""
    if number < levels[0][root]:
        return 0
    number = number - levels[0][root]
    longest = 0
    many = _many_by(choir, levels[0], root, 1, choir.pace())
    while number >= many:
        number = number - many
        longest += 1
        many = _many_by(choir, levels[longest], root, 1, choir.pace())
    return _row_of(choir, levels[:longest + 1], root, number)


def _row_of(choir, levels, root, number):
    figures = []
    standing = root
    rest = 1
    for level in reversed(levels):
        many = level[choir.led(standing, rest)]
        while number >= many:
            number = number - many
            rest += 1
            many = level[choir.led(standing, rest)]
        figures.append(rest)
        standing = choir.led(standing, rest)
        rest = 0
    return number_of(figures, choir.pace())


def least_from(choir, levels, root, start):
    """The least wait from start on that leads a root to the chord, None where there is none."""
    figures = figures_of(start, choir.pace())
    passed = [root]
    for figure in figures:
        passed.append(choir.led(passed[-1], figure))
    if levels[0][passed[-1]] > 0:
        return start
    # The more figures stay, the less is the wait.
    for kept in reversed(range(len(figures))):
        row = _least_row(choir, levels[:len(figures) - kept], passed[kept], figures[kept] + 1)
        if row:
            return number_of(figures[:kept] + row, choir.pace())
    for longest in range(len(figures), len(levels)):
        row = _least_row(choir, levels[:longest + 1], root, 1)
        if row:
            return number_of(row, choir.pace())
    return None


def _least_row(choir, levels, standing, low):
    # As many rests as there are levels, the first one from low on; none where no such row leads to the chord.
    row = []
    for level in reversed(levels):
        rests = [rest for rest in range(low, choir.pace()) if level[choir.led(standing, rest)] > 0]
        if not rests:
            return []
        row.append(rests[0])
        standing = choir.led(standing, rests[0])
        low = 0
    return row
