"""Books, which keep a song, what was done to it, and what was taken back."""

from halfpace.deeds import done, is_deed
from halfpace.errors import Nothing, SongError, Stopped
from halfpace.matches import healed
from halfpace.weaves import MOST


class Book:
    """A song and its deeds, which can be taken back and done again."""

    def __init__(self, song):
        self._begun = song
        # Each deed with the song behind it, the last one last.
        self._done = []
        self._undone = []

    def put(self, beat, name, note):
        """A cue more."""
        self._do(("put", beat, name, note))

    def take(self, beat, name):
        """A cue less."""
        self._do(("take", beat, name))

    def breathe(self, beat):
        """A breath more."""
        self._do(("breathe", beat))

    def flow(self, beat):
        """A breath less."""
        self._do(("flow", beat))

    def move(self, beat, name, later):
        """A cue taken and put at another beat."""
        self._do(("move", beat, name, later))

    def _do(self, deed):
        song = done(self.song(), deed)
        self._done.append((deed, song))
        self._undone = []

    def back(self):
        """The last deed that stands is taken back."""
        if not self._done:
            raise Nothing()
        self._undone.append(self._done.pop())

    def again(self):
        """What was taken back last is done again."""
        if not self._undone:
            raise Nothing()
        self._done.append(self._undone.pop())

    def song(self):
        """The song as it stands."""
        return self._done[-1][1] if self._done else self._begun

    def deeds(self):
        """The list of the deeds that stand, as they were done."""
        return [deed for deed, _ in self._done]

    def tried(self, deeds):
        """The song to which a list of deeds would lead."""
        song = self.song()
        for at, deed in enumerate(deeds):
            if not is_deed(song.choir(), deed):
                raise Stopped(at)
            try:
                song = done(song, deed)
            except SongError:
                raise Stopped(at) from None
        return song

    def heals(self, deed, ear, *, most=MOST):
        """Whether a deed would be ("unheard",), ("healed", beat) or ("never",)."""
        song = self.song()
        return healed(done(song, deed), song, ear, most)

    def copied(self):
        """A book with all that, which goes on by itself."""
        book = Book(self._begun)
        book._done = list(self._done)
        book._undone = list(self._undone)
        return book
