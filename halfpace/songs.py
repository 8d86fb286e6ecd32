"""Songs: a choir, a first standing, and cues and breaths from which the beats are counted anew."""

from halfpace.choirs import Choir, is_standing
from halfpace.errors import BadCue, Full, NoCue, NoRoot, There, Wrong
from halfpace.kinds import is_beat, is_below

MOST_CUES = 40
MOST_BREATHS = 40


class Song:
    """What a choir sings from a first standing on, with cues (beat, name, note) and breaths."""

    def __init__(self, choir, first, *, cues=(), breaths=()):
        _refuse_wrong(choir, first, cues, breaths)
        _refuse_bad_cues(choir, cues)
        self._fill(choir, first, cues, breaths)

    def _fill(self, choir, first, cues, breaths):
        self._choir = choir
        self._first = first
        self._cues = sorted(cues)
        self._breaths = sorted(breaths)
        self._roots = _roots_of(choir, first, self._cues, self._breaths)

    def __eq__(self, other):
        return (
            isinstance(other, Song)
            and self._choir == other._choir
            and self._first == other._first
            and self._cues == other._cues
            and self._breaths == other._breaths
        )

    def choir(self):
        """The choir that sings."""
        return self._choir

    def first(self):
        """The first standing, as handed in."""
        return self._first

    def cues(self):
        """The sorted list of the cues (beat, name, note)."""
        return list(self._cues)

    def breaths(self):
        """The sorted list of the beats of the breaths."""
        return list(self._breaths)

    def roots(self):
        """The list of (beat, standing) for each root beat, rising."""
        return list(self._roots)

    def standing(self, beat):
        """The standing that is sung at a beat."""
        last, root = last_root(self._roots, beat)
        return self._choir.behind(root, beat - last)

    def note(self, beat, name):
        """The note that a voice sings at a beat."""
        return self.standing(beat)[self._choir.place(name)]

    def with_cue(self, beat, name, note):
        """The song with a cue more."""
        if self._has_cue(beat, name):
            raise There(beat, name)
        if len(self._cues) >= MOST_CUES:
            raise Full()
        return self._changed(self._cues + [(beat, name, note)], self._breaths)

    def without(self, beat, name):
        """The song with a cue less."""
        if not self._has_cue(beat, name):
            raise NoCue(beat, name)
        return self._changed([cue for cue in self._cues if (cue[0], cue[1]) != (beat, name)], self._breaths)

    def with_breath(self, beat):
        """The song with a breath more."""
        if beat in self._breaths:
            raise There(beat, None)
        if len(self._breaths) >= MOST_BREATHS:
            raise Full()
        return self._changed(self._cues, self._breaths + [beat])

    def without_breath(self, beat):
        """The song with a breath less."""
        if beat not in self._breaths:
            raise NoCue(beat, None)
        return self._changed(self._cues, [other for other in self._breaths if other != beat])

    def from_root(self, beat):
        """The song that goes on as this one from a root beat on."""
        last, root = last_root(self._roots, beat)
        if last != beat:
            raise NoRoot(beat)
        cues = [(cue[0] - beat, cue[1], cue[2]) for cue in self._cues if cue[0] > beat]
        breaths = [breath - beat for breath in self._breaths if breath > beat]
        return _made(self._choir, root, cues, breaths)

    def _has_cue(self, beat, name):
        return (beat, name) in [(cue[0], cue[1]) for cue in self._cues]

    def _changed(self, cues, breaths):
        return _made(self._choir, self._first, cues, breaths)


def _refuse_wrong(choir, first, cues, breaths):
    if not isinstance(choir, Choir):
        raise Wrong(0)
    if not is_standing(choir, first):
        raise Wrong(1)
    if not isinstance(cues, (list, tuple)) or len(cues) > MOST_CUES:
        raise Wrong(2)
    if not isinstance(breaths, (list, tuple)) or len(breaths) > MOST_BREATHS:
        raise Wrong(3)
    if not _are_unlike_beats(breaths):
        raise Wrong(3)


def _are_unlike_beats(things):
    found = {}
    for thing in things:
        if not is_beat(thing) or thing in found:
            return False
        found[thing] = True
    return True


def _refuse_bad_cues(choir, cues):
    found = {}
    for at, cue in enumerate(cues):
        if not _is_cue(choir, cue) or (cue[0], cue[1]) in found:
            raise BadCue(at)
        found[(cue[0], cue[1])] = True


def _is_cue(choir, thing):
    if not isinstance(thing, tuple) or len(thing) != 3:
        return False
    beat, name, note = thing
    return is_beat(beat) and isinstance(name, str) and name in choir.names() and is_below(note, choir.notes())


def _made(choir, first, cues, breaths):
    # What is made of a right song is right; a beat that is somewhat too great is let,
    # since only who hands in cues and breaths is refused.
    song = Song(choir, first)
    song._fill(choir, first, cues, breaths)
    return song


def breathed(song, beat):
    """The song with a breath more, however many it has."""
    return _made(song.choir(), song.first(), song.cues(), song.breaths() + [beat])


def _roots_of(choir, first, cues, breaths):
    cued = {beat: [] for beat in [0] + breaths + [cue[0] for cue in cues]}
    for beat, name, note in cues:
        cued[beat].append((name, note))
    roots = []
    last = 0
    standing = first
    for beat in sorted(cued):
        standing = put(choir, choir.behind(standing, beat - last), cued[beat])
        roots.append((beat, standing))
        last = beat
    return roots


def put(choir, standing, notes):
    """The standing in which the voices of some (name, note) sing these notes."""
    told = list(standing)
    for name, note in notes:
        told[choir.place(name)] = note
    return tuple(told)


def last_root(roots, beat):
    """The last one of rising roots (beat, standing) that is not behind a beat."""
    low = 0
    high = len(roots)
    while high - low > 1:
        middle = (low + high) // 2
        if roots[middle][0] <= beat:
            low = middle
        else:
            high = middle
    return roots[low]
