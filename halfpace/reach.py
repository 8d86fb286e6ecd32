"""Where a root comes behind waits, and with which least ones; places and the ways between them go by numbers."""

from halfpace.figures import figures_of


def reached(ways, root):
    """The list of (place, wait) for each place to which a root comes, with the least wait from 1 on, rising."""
    pace = len(ways[root])
    found = {}
    coming = [(ways[root][rest], rest) for rest in range(1, pace)]
    # All waits of one length come ahead of the longer ones, and rising, so the first is the least.
    while coming:
        new = []
        for place, wait in coming:
            if place not in found:
                found[place] = wait
                new.append((place, wait))
        coming = [(led, pace * wait + rest) for place, wait in new for rest, led in enumerate(ways[place])]
    return list(found.items())


def reached_from(ways, root, start):
    """The same with the least wait from a start on, that one too."""
    pace = len(ways[root])
    own = root
    wait = 0
    above = {}
    # Of more figures than there are places some can be left out, so no least wait has so
    # many more than the start. Waits that are not told yet have the start's figures so far.
    for figure in [0] * len(ways) + figures_of(start, pace):
        coming = {}
        for rest in range(figure + 1, pace):
            _put(coming, ways[own][rest], pace * wait + rest)
        for place, least in above.items():
            for rest, led in enumerate(ways[place]):
                _put(coming, led, pace * least + rest)
        above = coming
        if wait > 0 or figure > 0:
            own = ways[own][figure]
            wait = pace * wait + figure
    told = {own: wait}
    for place, least in above.items():
        _put(told, place, least)
    return list(told.items())


def _put(found, place, wait):
    if place not in found:
        found[place] = wait
