"""What DOC.md tells, worked out slowly and plainly, and choirs and songs made up for the tests."""

import heapq
import itertools
import random

from halfpace.choirs import Choir
from halfpace.duos import Duo
from halfpace.ears import Run
from halfpace.errors import TooMany
from halfpace.figures import blocks, figures_of
from halfpace.hands import told_apart
from halfpace.songs import Song

# Words of the document's texts, and other names.
NAMES = ["pace", "notes", "first", "cue", "breath", "alto", "bass", "tenor", "a", "b", "zz", "sopran", "longname"]

# What is no number, no name, no list and no tuple wherever a thing is told.
ODD = [None, True, False, "", "0", "alto", b"a", {}, {"a": 1}, set(), [], (), [None], (None,), object, lambda: 0]


def most_voices(notes):
    many = 1
    while notes ** (many + 1) <= 64:
        many += 1
    return many


def made_voices(chance, pace, notes, many):
    names = chance.sample(NAMES, many)
    return [
        (
            name,
            tuple(chance.choice(names) for _ in range(pace)),
            tuple(tuple(chance.randrange(notes) for _ in range(notes)) for _ in range(pace)),
        )
        for name in names
    ]


def made_choir(chance, pace=None, notes=None, many=None):
    pace = pace or chance.randint(2, 4)
    notes = notes or chance.randint(2, 5)
    many = many or chance.randint(1, most_voices(notes))
    return Choir(pace, notes, made_voices(chance, pace, notes, many))


def made_standing(chance, choir):
    return tuple(chance.randrange(choir.notes()) for _ in range(len(choir)))


def made_cues(chance, choir, many, last):
    cues = {}
    while len(cues) < min(many, (last + 1) * len(choir)):
        cues[chance.randint(0, last), chance.choice(choir.names())] = chance.randrange(choir.notes())
    return [(beat, name, note) for (beat, name), note in cues.items()]


def made_song(chance, choir=None, last=60, cues=None, breaths=None):
    choir = choir or made_choir(chance)
    cues = made_cues(chance, choir, chance.randint(0, 8) if cues is None else cues, last)
    breaths = chance.sample(range(last + 1), chance.randint(0, min(5, last)) if breaths is None else breaths)
    return Song(choir, made_standing(chance, choir), cues=cues, breaths=breaths)


def made_chord(chance, choir, many=None):
    names = chance.sample(choir.names(), chance.randint(0, len(choir)) if many is None else many)
    return [(name, chance.randrange(choir.notes())) for name in names]


def made_ear(chance, choir, many):
    return [
        (chance.choice(choir.names()), tuple(chance.randint(0, 9) for _ in range(choir.notes()))) for _ in range(many)
    ]


def all_standings(choir):
    return list(itertools.product(range(choir.notes()), repeat=len(choir)))


def slow_led(choir, standing, rest):
    sung = dict(zip(choir.names(), standing))
    return tuple(choir.table(name, rest)[sung[choir.elder(name, rest)]] for name in choir.names())


def slow_behind(choir, root, wait):
    rests = []
    while wait > 0:
        rests.append(wait % choir.pace())
        wait = wait // choir.pace()
    for rest in reversed(rests):
        root = slow_led(choir, root, rest)
    return root


def rising_choir(chance, pace=None, notes=None, many=None):
    """A choir in which notes mostly rise to the last one, so that hits mostly end."""
    pace = pace or chance.randint(2, 4)
    notes = notes or chance.randint(2, 5)
    many = many or chance.randint(1, most_voices(notes))

    def table():
        return tuple(chance.randint(min(note + 1, notes - 1), notes - 1) for note in range(notes))

    voices = made_voices(chance, pace, notes, many)
    return Choir(pace, notes, [(name, elders, tuple(table() for _ in tables)) for name, elders, tables in voices])


def has_it(choir, standing, chord):
    sung = dict(zip(choir.names(), standing))
    return all(sung[name] == note for name, note in chord)


def between(choir, root, first, last):
    """How many waits from the first to the last lead to each standing, told by blocks of waits."""
    ways = {(standing, rest): slow_led(choir, standing, rest)
            for standing in all_standings(choir) for rest in range(choir.pace())}
    begun = {}
    for start, level in blocks(max(first, 1), last, choir.pace()) if last >= max(first, 1) else []:
        standing = root
        for rest in figures_of(start, choir.pace()):
            standing = ways[standing, rest]
        begun.setdefault(level, []).append(standing)
    row = {}
    for level in reversed(range(max(begun, default=-1) + 1)):
        longer = {}
        for standing, many in row.items():
            for rest in range(choir.pace()):
                led = ways[standing, rest]
                longer[led] = longer.get(led, 0) + many
        for standing in begun.get(level, []):
            longer[standing] = longer.get(standing, 0) + 1
        row = longer
    if first == 0 <= last:
        row[root] = row.get(root, 0) + 1
    return row


def many_between(choir, root, chord, first, last):
    return sum(many for standing, many in between(choir, root, first, last).items() if has_it(choir, standing, chord))


def far_enough(choir, start):
    """A wait to which from the start on the root comes to whatever it comes to from there on at all."""
    wait = max(start, 1)
    for _ in range(len(all_standings(choir)) + 2):
        wait = wait * choir.pace()
    return wait


class Sung:
    """A song sung beat by beat: each voice by its elder at an earlier beat, counted from the last root beat."""

    def __init__(self, song, last):
        choir = song.choir()
        cues = {(beat, name): note for beat, name, note in song.cues()}
        beats = {0} | {beat for beat, _ in cues} | set(song.breaths())
        self.rows = []
        self.elders = {}
        root = 0
        for beat in range(last + 1):
            row = {}
            for place, name in enumerate(choir.names()):
                wait = beat - root
                elder = (root + wait // choir.pace(), choir.elder(name, wait % choir.pace()))
                self.elders[beat, name] = None
                if (beat, name) in cues:
                    row[name] = cues[beat, name]
                elif beat == 0:
                    row[name] = song.first()[place]
                else:
                    self.elders[beat, name] = elder
                    row[name] = choir.table(name, wait % choir.pace())[self.rows[elder[0]][elder[1]]]
            self.rows.append(row)
            if beat in beats:
                root = beat
        self.standings = [tuple(row[name] for name in choir.names()) for row in self.rows]

    def road(self, beat, name):
        told = [(beat, name)]
        while self.elders[told[-1]] is not None:
            told.append(self.elders[told[-1]])
        return told


def slow_heard(choir, standing, ear):
    sung = dict(zip(choir.names(), standing))
    return tuple(sounds[sung[name]] for name, sounds in ear)


def slow_sounds(run, wait):
    return slow_heard(run.choir(), slow_behind(run.choir(), run.root(), wait), run.ear())


def slow_walk(run, last):
    """What a run sounds like behind each wait from 0 to the last."""
    choir = run.choir()
    standings = [run.root()]
    for wait in range(1, last + 1):
        standings.append(slow_led(choir, standings[wait // choir.pace()], wait % choir.pace()))
    return [slow_heard(choir, standing, run.ear()) for standing in standings]


def made_ears(chance, one, other, many):
    """Two ears of two choirs, of one length; of one choir they are mostly the same."""
    ear = made_ear(chance, one, many)
    if one.voices() == other.voices() and chance.random() < 0.7:
        return ear, list(ear)
    return ear, made_ear(chance, other, many)


def made_runs(chance, most_voices_each=2):
    """Two runs of one pace: often of one choir, of notes that rise, of one root, and of one ear."""
    made = rising_choir if chance.random() < 0.5 else made_choir
    one = made(chance, None, None, chance.randint(1, most_voices_each))
    other = one if chance.random() < 0.6 else made(chance, one.pace(), None, chance.randint(1, most_voices_each))
    ear, other_ear = made_ears(chance, one, other, chance.randint(1, 2))
    root = made_standing(chance, one)
    other_root = root if other is one and chance.random() < 0.5 else made_standing(chance, other)
    return Run(one, root, ear), Run(other, other_root, other_ear)


def made_lag(chance, pace):
    """A lag: none, small, near a power of the pace, or far."""
    kind = chance.randrange(4)
    if kind == 0:
        return chance.choice([0, 0, 1, 2, 3])
    if kind == 1:
        return chance.randint(1, 100)
    if kind == 2:
        return pace ** chance.randint(1, 29) + chance.choice([-1, 0, 1])
    return chance.choice([chance.randrange(2 * 10 ** 18 + 1), 10 ** 18, 2 * 10 ** 18])


def made_hand(chance, one, other):
    """A hand over two choirs: some (side, name, note), or none."""
    hand = []
    for side, choir in ((0, one), (1, other)):
        for name in chance.sample(choir.names(), chance.randint(0, len(choir))):
            hand.append((side, name, chance.randrange(choir.notes())))
    return chance.sample(hand, len(hand))


def slow_put(choir, standing, notes):
    sung = dict(zip(choir.names(), standing))
    sung.update(notes)
    return tuple(sung[name] for name in choir.names())


def slow_by_hand(runs, standings, hand):
    """The two standings, put as a hand tells."""
    return tuple(
        slow_put(run.choir(), standing, {name: note for other, name, note in hand if other == side})
        for side, (run, standing) in enumerate(zip(runs, standings))
    )


def chances(many, seed):
    """So many sources of chance, the same ones each time."""
    return [random.Random(seed * 10007 + number) for number in range(many)]


def made_duos(many, seed):
    """Duos of all kinds that are not refused, as chance, the two runs and a lag."""
    for chance in chances(many, seed):
        one, other = made_runs(chance)
        lag = made_lag(chance, one.choir().pace())
        try:
            Duo(one, other, lag=lag)
        except TooMany:
            continue
        yield chance, one, other, lag


def is_unlike_at(one, other, lag, number):
    return slow_sounds(one, number) != slow_sounds(other, number + lag)


def slow_triple(one, other, lag, number, level):
    """The triple of a number as [61] tells it."""
    ahead = number + lag // one.choir().pace() ** level
    waits = [ahead, ahead + 1] if lag else [ahead]
    others = tuple(slow_behind(other.choir(), other.root(), wait) for wait in waits)
    return (slow_behind(one.choir(), one.root(), number),) + others


class SlowDuo:
    """The triples that come at each level, one from another, by the words of [61]."""

    def __init__(self, one, other, lag):
        self.one = one
        self.other = other
        self.lag = lag
        self.pace = one.choir().pace()
        self.base = len(figures_of(lag, self.pace))
        self.ways = {}
        for place, choir in enumerate((one.choir(), other.choir())):
            for standing in all_standings(choir):
                for rest in range(self.pace):
                    self.ways[place, standing, rest] = slow_led(choir, standing, rest)

    def led(self, triple, rest, level):
        """What comes at a level from one at the level above by a rest."""
        x = self.ways[0, triple[0], rest]
        if not self.lag:
            return (x, self.ways[1, triple[1], rest])
        g = self.lag // self.pace ** level - self.pace * (self.lag // self.pace ** (level + 1))
        told = [x]
        for q in (rest + g, rest + g + 1):
            told.append(self.ways[1, triple[1], q] if q < self.pace else self.ways[1, triple[2], q - self.pace])
        return tuple(told)

    def begun(self, level):
        """The triples of the numbers from 1 below the pace."""
        return {slow_triple(self.one, self.other, self.lag, number, level) for number in range(1, self.pace)}

    def high(self):
        found = self.begun(self.base)
        new = found
        while new:
            new = {self.led(triple, rest, self.base) for triple in new for rest in range(self.pace)} - found
            found = found | new
        return found

    def levels(self):
        told = [self.high()]
        for level in reversed(range(self.base)):
            coming = {self.led(triple, rest, level) for triple in told[0] for rest in range(self.pace)}
            told.insert(0, coming | self.begun(level))
        return told


class SlowField:
    """What [80] tells of pairs, word by word."""

    def __init__(self, one, other, hands):
        self.runs = (one, other)
        self.hands = hands
        self.pace = one.choir().pace()
        self.begin = (False, one.root(), other.root())
        self.right = {
            repr((begun, x, y)) for begun in (False, True)
            for x in all_standings(one.choir()) for y in all_standings(other.choir())
        }

    def unlike(self, x, y):
        one, other = self.runs
        return slow_heard(one.choir(), x, one.ear()) != slow_heard(other.choir(), y, other.ear())

    def coming(self, pair):
        begun, x, y = pair
        one, other = self.runs
        told = {
            (True, slow_led(one.choir(), x, rest), slow_led(other.choir(), y, rest))
            for rest in range(0 if begun else 1, self.pace)
        }
        return told | {(False, *slow_by_hand(self.runs, (x, y), hand)) for hand in self.hands}

    def pairs(self):
        found = {self.begin}
        new = found
        while new:
            new = {part for pair in new for part in self.coming(pair)} - found
            found = found | new
        return sorted(found)

    def is_list(self, thing):
        if type(thing) is not list or not all(repr(part) in self.right for part in thing):
            return False
        pairs = set(thing)
        return self.begin in pairs and all(
            not self.unlike(*pair[1:]) and self.coming(pair) <= pairs for pair in pairs
        )

    def is_row(self, thing):
        if type(thing) is not list:
            return False
        standings = self.begin[1:]
        wait = None
        for part in thing:
            if type(part) is int:
                if part < 1 or wait is not None:
                    return False
                wait = part
                standings = tuple(
                    slow_behind(run.choir(), standing, part) for run, standing in zip(self.runs, standings)
                )
            else:
                wait = None
                if repr(part) not in [repr(("hand", place)) for place in range(len(self.hands))]:
                    return False
                standings = slow_by_hand(self.runs, standings, self.hands[part[1]])
        return self.unlike(*standings)

    def least(self, last):
        """The least beats, to a last beat, and of these the fewest hands, beat by beat."""
        now = {(self.begin[1:], 0): 0}
        for beat in range(last + 1):
            queue = [(many, state) for state, many in now.items()]
            heapq.heapify(queue)
            while queue:
                many, (roots, wait) = heapq.heappop(queue)
                if now[roots, wait] < many:
                    continue
                sung = tuple(slow_behind(run.choir(), root, wait) for run, root in zip(self.runs, roots))
                if self.unlike(*sung):
                    return beat, many
                for hand in self.hands:
                    put = (slow_by_hand(self.runs, sung, hand), 0)
                    if now.get(put, many + 2) > many + 1:
                        now[put] = many + 1
                        heapq.heappush(queue, (many + 1, put))
            now = {(roots, wait + 1): many for (roots, wait), many in now.items()}
        return None


def made_fields(many, seed):
    """Two runs and hands; often such as sound alike for long."""
    for chance in chances(many, seed):
        one, other = made_runs(chance, 2)
        if chance.random() < 0.5:
            ear = [(name, tuple(chance.choice([sounds[0], sounds[0], note]) for note in sounds))
                   for name, sounds in one.ear()]
            one = Run(one.choir(), one.root(), ear)
            if other.choir() == one.choir():
                other = Run(other.choir(), other.root(), ear)
        hands = [made_hand(chance, one.choir(), other.choir()) for _ in range(chance.randint(1, 4))]
        if chance.random() < 0.5 and one.choir() == other.choir():
            # Hands that put the same to both.
            hands = [[(side, name, note) for own, name, note in hand if own == 0 for side in (0, 1)] for hand in hands]
        try:
            told_apart(one, other, hands)
        except TooMany:
            continue
        yield chance, one, other, hands


def spoilt(thing):
    """All things that are a thing with one part of it put otherwise: each is another thing, by its kind, too."""
    told = [odd for odd in ODD if repr(odd) != repr(thing)]
    if isinstance(thing, bool) or thing is None:
        return told
    if isinstance(thing, int):
        told += [bool(thing)] if thing in (0, 1) else []
        return told + [-1, str(thing), [thing], (thing,)]
    if isinstance(thing, (list, tuple)):
        other = tuple if isinstance(thing, list) else list
        told.append(other(thing))
        for place, part in enumerate(thing):
            for new in spoilt(part):
                told.append(type(thing)([*thing[:place], new, *thing[place + 1:]]))
    return told
