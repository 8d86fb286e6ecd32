"""The refusals, each of which keeps the very things that it is made with."""


# The things that a refusal is made with stay its args, as Python puts them there
# by itself; so a refusal can be copied, and no message has to be made of odd things.


class SongError(ValueError):
    """What all refusals stand under."""


class Wrong(SongError):
    """The thing handed in at a place is not as told."""

    def __init__(self, at):
        self.at = at


class BadVoice(SongError):
    """The voice at a place is none, or has an elder that is none."""

    def __init__(self, at):
        self.at = at


class BadCue(SongError):
    """The cue at a place is none, or stands twice."""

    def __init__(self, at):
        self.at = at


class Unlike(SongError):
    """Two things that should have something in common do not."""

    def __init__(self):
        pass


class Taken(SongError):
    """A name is another voice's already."""

    def __init__(self, name):
        self.name = name


class TooGreat(SongError):
    """There would be more than most standings."""

    def __init__(self, most):
        self.most = most


class TooMany(SongError):
    """More than most triples or pairs come."""

    def __init__(self, most):
        self.most = most


class There(SongError):
    """A cue, or a breath (then the name is None), is there already."""

    def __init__(self, beat, name):
        self.beat = beat
        self.name = name


class NoCue(SongError):
    """There is no such cue, or no such breath (then the name is None)."""

    def __init__(self, beat, name):
        self.beat = beat
        self.name = name


class Full(SongError):
    """A song can hold no more."""

    def __init__(self):
        pass


class NoRoot(SongError):
    """A beat is no root beat."""

    def __init__(self, beat):
        self.beat = beat


class NoNumber(SongError):
    """There are not so many."""

    def __init__(self, number):
        self.number = number


class NoText(SongError):
    """A thing is not what a choir or a song is written as."""

    def __init__(self):
        pass


class Nothing(SongError):
    """There is nothing to take back or to do again."""

    def __init__(self):
        pass


class Stopped(SongError):
    """The deed at a place is refused, or is none."""

    def __init__(self, at):
        self.at = at
