"""Roads: on which one note what a voice sings hangs, and by which way."""

from halfpace.songs import last_root


def elder_of(song, beat, name):
    """The elder (beat, name) of a voice at a beat, None where there is none."""
    step = _step(song.choir(), song.roots(), _cued(song), beat, name)
    if step is None:
        return None
    return (step[0], step[1])


def road(song, beat, name):
    """The list of (beat, name) from a voice at a beat by its elders to its source."""
    return [(step[0], step[1]) for step in _walk(song, beat, name)]


def road_table(song, beat, name):
    """The tuple of what a voice sings at a beat for each note that its source could have."""
    choir = song.choir()
    told = list(range(choir.notes()))
    steps = _walk(song, beat, name)
    for step in reversed(steps[:-1]):
        table = choir.table(step[1], step[2])
        told = [table[note] for note in told]
    return tuple(told)


def tie(song, one, other):
    """The first (beat, name) of the one's road that stands in the other's, None where there is none."""
    others = {step: True for step in road(song, other[0], other[1])}
    for step in road(song, one[0], one[1]):
        if step in others:
            return step
    return None


def _cued(song):
    return {(cue[0], cue[1]): True for cue in song.cues()}


def _step(choir, roots, cued, beat, name):
    # The elder's beat and name, and the rest by which it is the elder.
    if beat == 0 or (beat, name) in cued:
        return None
    last = last_root(roots, beat - 1)[0]
    beats, rest = divmod(beat - last, choir.pace())
    return (last + beats, choir.elder(name, rest), rest)


def _walk(song, beat, name):
    # The road, each with the rest by which the next one is its elder; the source has none.
    choir = song.choir()
    roots = song.roots()
    cued = _cued(song)
    steps = []
    step = _step(choir, roots, cued, beat, name)
    while step is not None:
        steps.append((beat, name, step[2]))
        beat = step[0]
        name = step[1]
        step = _step(choir, roots, cued, beat, name)
    return steps + [(beat, name, None)]
