"""What DOC.md tells, worked out slowly and plainly, and choirs and songs made up for the tests."""

import itertools
import random

from halfpace.choirs import Choir
from halfpace.figures import blocks, figures_of
from halfpace.songs import Song

# Words of the document's texts, and other names.
NAMES = ["pace", "notes", "first", "cue", "breath", "alto", "bass", "tenor", "a", "b", "zz", "sopran", "longname"]

# What is no number, no name, no list and no tuple wherever a thing is told.
ODD = [None, True, False, "", "0", "alto", b"a", {}, {"a": 1}, set(), [], (), [None], (None,), object, lambda: 0]


def most_voices(notes):
    many = 1
    while notes ** (many + 1) <= 64:
        many += 1
    return many


def made_voices(chance, pace, notes, many):
    names = chance.sample(NAMES, many)
    return [
        (
            name,
            tuple(chance.choice(names) for _ in range(pace)),
            tuple(tuple(chance.randrange(notes) for _ in range(notes)) for _ in range(pace)),
        )
        for name in names
    ]


def made_choir(chance, pace=None, notes=None, many=None):
    pace = pace or chance.randint(2, 4)
    notes = notes or chance.randint(2, 5)
    many = many or chance.randint(1, most_voices(notes))
    return Choir(pace, notes, made_voices(chance, pace, notes, many))


def made_standing(chance, choir):
    return tuple(chance.randrange(choir.notes()) for _ in range(len(choir)))


def made_cues(chance, choir, many, last):
    cues = {}
    while len(cues) < min(many, (last + 1) * len(choir)):
        cues[chance.randint(0, last), chance.choice(choir.names())] = chance.randrange(choir.notes())
    return [(beat, name, note) for (beat, name), note in cues.items()]


def made_song(chance, choir=None, last=60, cues=None, breaths=None):
    choir = choir or made_choir(chance)
    cues = made_cues(chance, choir, chance.randint(0, 8) if cues is None else cues, last)
    breaths = chance.sample(range(last + 1), chance.randint(0, min(5, last)) if breaths is None else breaths)
    return Song(choir, made_standing(chance, choir), cues=cues, breaths=breaths)


def made_chord(chance, choir, many=None):
    names = chance.sample(choir.names(), chance.randint(0, len(choir)) if many is None else many)
    return [(name, chance.randrange(choir.notes())) for name in names]


def made_ear(chance, choir, many):
    return [
        (chance.choice(choir.names()), tuple(chance.randint(0, 9) for _ in range(choir.notes()))) for _ in range(many)
    ]


def all_standings(choir):
    return list(itertools.product(range(choir.notes()), repeat=len(choir)))


def slow_led(choir, standing, rest):
    sung = dict(zip(choir.names(), standing))
    return tuple(choir.table(name, rest)[sung[choir.elder(name, rest)]] for name in choir.names())


def slow_behind(choir, root, wait):
    if wait == 0:
        return root
    return slow_led(choir, slow_behind(choir, root, wait // choir.pace()), wait % choir.pace())


def rising_choir(chance, pace=None, notes=None, many=None):
    """A choir in which notes mostly rise to the last one, so that hits mostly end."""
    pace = pace or chance.randint(2, 4)
    notes = notes or chance.randint(2, 5)
    many = many or chance.randint(1, most_voices(notes))

    def table():
        return tuple(chance.randint(min(note + 1, notes - 1), notes - 1) for note in range(notes))

    voices = made_voices(chance, pace, notes, many)
    return Choir(pace, notes, [(name, elders, tuple(table() for _ in tables)) for name, elders, tables in voices])


def has_it(choir, standing, chord):
    sung = dict(zip(choir.names(), standing))
    return all(sung[name] == note for name, note in chord)


def between(choir, root, first, last):
    """How many waits from the first to the last lead to each standing, told by blocks of waits."""
    ways = {(standing, rest): slow_led(choir, standing, rest)
            for standing in all_standings(choir) for rest in range(choir.pace())}
    begun = {}
    for start, level in blocks(max(first, 1), last, choir.pace()) if last >= max(first, 1) else []:
        standing = root
        for rest in figures_of(start, choir.pace()):
            standing = ways[standing, rest]
        begun.setdefault(level, []).append(standing)
    row = {}
    for level in reversed(range(max(begun, default=-1) + 1)):
        longer = {}
        for standing, many in row.items():
            for rest in range(choir.pace()):
                led = ways[standing, rest]
                longer[led] = longer.get(led, 0) + many
        for standing in begun.get(level, []):
            longer[standing] = longer.get(standing, 0) + 1
        row = longer
    if first == 0 <= last:
        row[root] = row.get(root, 0) + 1
    return row


def many_between(choir, root, chord, first, last):
    return sum(many for standing, many in between(choir, root, first, last).items() if has_it(choir, standing, chord))


def far_enough(choir, start):
    """A wait to which from the start on the root comes to whatever it comes to from there on at all."""
    wait = max(start, 1)
    for _ in range(len(all_standings(choir)) + 2):
        wait = wait * choir.pace()
    return wait


class Sung:
    """A song sung beat by beat: each voice by its elder at an earlier beat, counted from the last root beat."""

    def __init__(self, song, last):
        choir = song.choir()
        cues = {(beat, name): note for beat, name, note in song.cues()}
        beats = {0} | {beat for beat, _ in cues} | set(song.breaths())
        self.rows = []
        self.elders = {}
        root = 0
        for beat in range(last + 1):
            row = {}
            for place, name in enumerate(choir.names()):
                wait = beat - root
                elder = (root + wait // choir.pace(), choir.elder(name, wait % choir.pace()))
                self.elders[beat, name] = None
                if (beat, name) in cues:
                    row[name] = cues[beat, name]
                elif beat == 0:
                    row[name] = song.first()[place]
                else:
                    self.elders[beat, name] = elder
                    row[name] = choir.table(name, wait % choir.pace())[self.rows[elder[0]][elder[1]]]
            self.rows.append(row)
            if beat in beats:
                root = beat
        self.standings = [tuple(row[name] for name in choir.names()) for row in self.rows]

    def road(self, beat, name):
        told = [(beat, name)]
        while self.elders[told[-1]] is not None:
            told.append(self.elders[told[-1]])
        return told


def chances(many, seed):
    """So many sources of chance, the same ones each time."""
    return [random.Random(seed * 10007 + number) for number in range(many)]


def spoilt(thing):
    """All things that are a thing with one part of it put otherwise: each is another thing, by its kind, too."""
    told = [odd for odd in ODD if repr(odd) != repr(thing)]
    if isinstance(thing, bool) or thing is None:
        return told
    if isinstance(thing, int):
        told += [bool(thing)] if thing in (0, 1) else []
        return told + [-1, str(thing), [thing], (thing,)]
    if isinstance(thing, (list, tuple)):
        other = tuple if isinstance(thing, list) else list
        told.append(other(thing))
        for place, part in enumerate(thing):
            for new in spoilt(part):
                told.append(type(thing)([*thing[:place], new, *thing[place + 1:]]))
    return told
