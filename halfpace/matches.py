"""Matches: two songs heard together; whether a cue heals, whether a beat is idle, and canons."""

from halfpace.braids import Braid
from halfpace.duos import LAST_NUMBER, Duo
from halfpace.ears import Run, heard
from halfpace.songs import breathed, last_root
from halfpace.weaves import MOST, Weave, refuse_unlike


class Match:
    """Two songs, unlike at each beat at which the one doesn't sound as the other does a lag later."""

    def __init__(self, one, ear, other, other_ear, *, lag=0, most=MOST):
        refuse_unlike(one.choir(), ear, other.choir(), other_ear)
        self._one = one
        self._ear = list(ear)
        self._other = other
        self._other_ear = list(other_ear)
        self._lag = lag
        self._begins = _begins(one, other, lag)
        self._braids = self._braids_of(most)
        self._ahead = None

    def _braids_of(self, most):
        # From the beat at which a part begins on, the root that stands there leads, and the
        # other one is as many beats ahead of it as it began earlier.
        choir = self._one.choir()
        other_choir = self._other.choir()
        forth = Weave(choir, self._ear, other_choir, self._other_ear)
        back = Weave(other_choir, self._other_ear, choir, self._ear)
        roots = self._one.roots()
        other_roots = self._other.roots()
        braids = []
        for begin in self._begins:
            beat, root = last_root(roots, begin)
            other_beat, other_root = last_root(other_roots, begin + self._lag)
            number = choir.number(root)
            other_number = other_choir.number(other_root)
            if beat == begin:
                braids.append(Braid(forth, (number, other_number), begin + self._lag - other_beat, most))
            else:
                braids.append(Braid(back, (other_number, number), begin - beat, most))
        return braids

    def is_unlike(self, beat):
        """Tell whether the two sound otherwise at a beat."""
        one = heard(self._one.choir(), self._one.standing(beat), self._ear)
        return one != heard(self._other.choir(), self._other.standing(beat + self._lag), self._other_ear)

    def many(self, upto):
        """How many beats from 0 to this one, it too, the match is unlike at."""
        return self._many_below(upto + 1)

    def unlike(self, number):
        """The unlike beat with so many ahead of it, None where there is none to the beat 10 ** 40."""
        if number >= self.many(LAST_NUMBER):
            return None
        return self._numbered(number)

    def first(self, start):
        """The first beat from this one on that the match is unlike at, None where there is none."""
        return self._numbered(self._many_below(start))

    def last(self):
        """("alike",), ("last", beat), or ("again", beat, lead, turn, tail) where the unlike beats never end."""
        tree = self._braids[-1].tree()
        again = tree.again()
        if again is not None:
            return ("again", self._begins[-1]) + again
        many = tree.all_many()
        at = len(self._begins) - 1
        while many == 0 and at > 0:
            at -= 1
            many = self._many_in(at)
        if many == 0:
            return ("alike",)
        return ("last", self._begins[at] + self._braids[at].tree().numbered(many - 1))

    def _many_in(self, at):
        # Of a part that another one follows.
        return self._braids[at].tree().many_below(self._begins[at + 1] - self._begins[at])

    def _ahead_of(self):
        # How many unlike beats are ahead of each part: worked out once, when first needed.
        if self._ahead is None:
            ahead = [0]
            for at in range(len(self._begins) - 1):
                ahead.append(ahead[-1] + self._many_in(at))
            self._ahead = ahead
        return self._ahead

    def _many_below(self, limit):
        at = len([begin for begin in self._begins[1:] if begin < limit])
        return self._ahead_of()[at] + self._braids[at].tree().many_below(limit - self._begins[at])

    def _numbered(self, number):
        ahead = self._ahead_of()
        at = len([many for many in ahead[1:] if many <= number])
        told = self._braids[at].tree().numbered(number - ahead[at])
        return None if told is None else self._begins[at] + told


def _begins(one, other, lag):
    begins = [root[0] for root in one.roots()]
    return sorted(set(begins + [root[0] - lag for root in other.roots() if root[0] > lag]))


def healing(song, ear, beat, name, note, *, most=MOST):
    """Whether a cue put to a song is ("unheard",), ("healed", beat) from a beat on, or ("never",)."""
    return healed(song.with_cue(beat, name, note), song, ear, most)


def healed(changed, song, ear, most):
    """From where on a changed song sounds to an ear as the song does, as healing tells it."""
    last = Match(changed, ear, song, ear, most=most).last()
    if last[0] == "alike":
        return ("unheard",)
    if last[0] == "last":
        return ("healed", last[1] + 1)
    return ("never",)


def is_idle(song, ear, beat, *, most=MOST):
    """Tell whether a breath at a beat would never be heard."""
    if beat in [root[0] for root in song.roots()]:
        return True
    return healed(breathed(song, beat), song, ear, most) == ("unheard",)


def canon(song, ear, later_ear, lag, *, most=MOST):
    """The least beat, from the last root beat on, at which the later ear doesn't hear a lag later what ear does."""
    root = song.roots()[-1][1]
    one = Run(song.choir(), root, ear)
    other = Run(song.choir(), root, later_ear)
    return Duo(one, other, lag=lag, most=most).first(0)
