"""Choirs: voices that sing what their elders sang, turned by tables."""

from halfpace.chords import has
from halfpace.errors import BadVoice, Taken, TooGreat, Unlike, Wrong
from halfpace.figures import figures_of
from halfpace.kinds import is_below, is_name, is_pace, is_whole
from halfpace.levels import Levels, Tree
from halfpace.reach import reached

FEWEST_NOTES = 2
MOST_NOTES = 5
MOST_VOICES = 6
MOST_STANDINGS = 64
MOST_CHORDS = 32
LEAST_VOICE = ("a", ("a", "a"), ((0, 0), (0, 0)))


class Choir:
    """A pace, a number of notes, and voices, each with an elder and a table for each rest."""

    def __init__(self, pace, notes, voices):
        _refuse_wrong(pace, notes, voices)
        _refuse_bad_voices(pace, notes, voices)
        self._fill(pace, notes, voices)

    def _fill(self, pace, notes, voices):
        self._pace = pace
        self._notes = notes
        self._voices = sorted(voices)
        self._names = [voice[0] for voice in self._voices]
        self._places = {name: place for place, name in enumerate(self._names)}
        self._standings = _rows(notes, len(voices))
        self._numbers = {standing: number for number, standing in enumerate(self._standings)}
        # There are few standings, and all that is asked of far beats goes over these ways.
        self._ways = {standing: self._ways_of(standing) for standing in self._standings}
        self._steps = tuple([self._numbered(self._ways[standing]) for standing in self._standings])
        self._reached = {}
        self._levels = {}

    def _ways_of(self, standing):
        return tuple([self._way(standing, rest) for rest in range(self._pace)])

    def _way(self, standing, rest):
        told = []
        for _, elders, tables in self._voices:
            told.append(tables[rest][standing[self._places[elders[rest]]]])
        return tuple(told)

    def _numbered(self, ways):
        return tuple([self._numbers[standing] for standing in ways])

    def __eq__(self, other):
        return (
            isinstance(other, Choir)
            and self._pace == other._pace
            and self._notes == other._notes
            and self._voices == other._voices
        )

    def __len__(self):
        return len(self._names)

    def pace(self):
        """How many times slower all is sung again."""
        return self._pace

    def notes(self):
        """How many notes there are."""
        return self._notes

    def names(self):
        """The sorted list of the voices' names."""
        return list(self._names)

    def place(self, name):
        """The place of a name in a standing."""
        return self._places[name]

    def elder(self, name, rest):
        """The name of the voice that a voice sings after, by a rest."""
        return self._voices[self._places[name]][1][rest]

    def table(self, name, rest):
        """The tuple of what a voice sings for each note of its elder, by a rest."""
        return self._voices[self._places[name]][2][rest]

    def voices(self):
        """The sorted list of the voices (name, elders, tables)."""
        return list(self._voices)

    def led(self, standing, rest):
        """The standing to which a standing leads by a rest."""
        return self._ways[standing][rest]

    def behind(self, standing, wait):
        """The standing to which a root has come behind a wait."""
        for rest in figures_of(wait, self._pace):
            standing = self._ways[standing][rest]
        return standing

    def number(self, standing):
        """The number of a standing, counted from 0 as Python sorts them."""
        return self._numbers[standing]

    def steps(self):
        """For each standing, by numbers, the tuple of those to which it leads by each rest."""
        return self._steps

    def reached(self, number):
        """The tuple of (number, least wait from 1 on) for each standing to which a root comes, by rising waits."""
        if number not in self._reached:
            self._reached[number] = tuple(reached(self._steps, number))
        return self._reached[number]

    def tree(self, root, chord):
        """The waits of a root, with a mark where it has come to the chord."""
        levels = self._levels_of(tuple(chord))
        number = self._numbers[root]
        return Tree(levels, [self._steps[number][1:]], levels.counts(0)[number])

    def _levels_of(self, chord):
        # What is counted for a chord holds for all roots and is asked for again and again;
        # but a choir can have hundreds of chords, so not all of them are kept.
        if chord not in self._levels:
            if len(self._levels) >= MOST_CHORDS:
                self._levels = {}
            columns = [[led[rest] for led in self._steps] for rest in range(self._pace)]
            marks = [int(has(self, standing, chord)) for standing in self._standings]
            self._levels[chord] = Levels([], columns, marks)
        return self._levels[chord]

    def hangs(self, names):
        """The sorted list of the names on which the told names hang, they themselves too."""
        found = {name: True for name in names}
        waiting = list(found)
        while waiting:
            for elder in self._voices[self._places[waiting.pop()]][1]:
                if elder not in found:
                    found[elder] = True
                    waiting.append(elder)
        return sorted(found)

    def only(self, names):
        """The choir of just the voices on which the told names hang."""
        voices = [self._voices[self._places[name]] for name in self.hangs(names)]
        return _made(self._pace, self._notes, voices)

    def seen(self, standing, names):
        """The notes of a standing in the voices on which the told names hang."""
        return tuple([standing[self._places[name]] for name in self.hangs(names)])


def _refuse_wrong(pace, notes, voices):
    if not is_pace(pace):
        raise Wrong(0)
    if not is_whole(notes) or not FEWEST_NOTES <= notes <= MOST_NOTES:
        raise Wrong(1)
    if not isinstance(voices, list) or not 1 <= len(voices) <= MOST_VOICES:
        raise Wrong(2)
    if not _are_few(notes, len(voices)):
        raise Wrong(2)


def _are_few(notes, voices):
    many = 1
    for _ in range(voices):
        many = many * notes
    return many <= MOST_STANDINGS


def _refuse_bad_voices(pace, notes, voices):
    names = {}
    for at, voice in enumerate(voices):
        if not _is_voice(pace, notes, voice) or voice[0] in names:
            raise BadVoice(at)
        names[voice[0]] = True
    # An elder may stand behind the voice that has it, so all names are needed first.
    for at, voice in enumerate(voices):
        if not all([elder in names for elder in voice[1]]):
            raise BadVoice(at)


def _is_voice(pace, notes, thing):
    if not isinstance(thing, tuple) or len(thing) != 3:
        return False
    name, elders, tables = thing
    if not is_name(name) or not _is_tuple_of(elders, pace) or not _is_tuple_of(tables, pace):
        return False
    return all([is_name(elder) for elder in elders]) and all([_is_table(notes, table) for table in tables])


def _is_table(notes, thing):
    return _is_tuple_of(thing, notes) and all([is_below(note, notes) for note in thing])


def _is_tuple_of(thing, many):
    return isinstance(thing, tuple) and len(thing) == many


def _made(pace, notes, voices):
    # What is made of a right choir is right; a new name that is somewhat too long is let,
    # since only who hands in voices is refused.
    choir = Choir(2, 2, [LEAST_VOICE])
    choir._fill(pace, notes, voices)
    return choir


def _rows(notes, many):
    rows = [()]
    for _ in range(many):
        rows = [row + (note,) for row in rows for note in range(notes)]
    return rows


def standings(choir):
    """The sorted list of all standings of a choir."""
    return list(choir._standings)


def is_standing(choir, thing):
    """Tell whether a thing is a standing of a choir."""
    if not _is_tuple_of(thing, len(choir)):
        return False
    return all([is_below(note, choir.notes()) for note in thing])


def beside(one, other):
    """The choir of all voices of two choirs."""
    if one.pace() != other.pace() or one.notes() != other.notes():
        raise Unlike()
    others = {name: True for name in other.names()}
    for name in one.names():
        if name in others:
            raise Taken(name)
    if not _are_few(one.notes(), len(one) + len(other)):
        raise TooGreat(MOST_STANDINGS)
    return _made(one.pace(), one.notes(), one.voices() + other.voices())


def renamed(choir, names):
    """The choir with the new name of each name."""
    voices = []
    for name, elders, tables in choir.voices():
        voices.append((names[name], tuple([names[elder] for elder in elders]), tables))
    return _made(choir.pace(), choir.notes(), voices)


def renoted(choir, notes):
    """The choir in which a voice sings as the k-th of its notes what it sang as note k."""
    voices = []
    for name, elders, tables in choir.voices():
        put = [_put_otherwise(table, notes[elder], notes[name]) for elder, table in zip(elders, tables)]
        voices.append((name, elders, tuple(put)))
    return _made(choir.pace(), choir.notes(), voices)


def _put_otherwise(table, ahead, own):
    put = list(table)
    for place, note in enumerate(table):
        put[ahead[place]] = own[note]
    return tuple(put)
