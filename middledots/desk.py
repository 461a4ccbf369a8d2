"""The desk: a cut that is turned by lines of text."""

from middledots.boards import Board, read_lines
from middledots.errors import NothingDone
from middledots.fields import given_field
from middledots.nets import given_cut


class Desk:
    """A CUT of a FIELD with the EDGES of it that are held, and what was said to it."""

    def __init__(self, field, cut):
        self._field = given_field(field)
        self._start = given_cut(self._field, cut)
        # A state is a CUT with the set of the EDGES of it that are held.
        self._state = (self._start, ())
        self._past = ()
        self._later = ()

    def say(self, text):
        """Does what the lines of text ask for, one by one: the tuple of the answers."""
        lines = read_lines(text)
        board = Board(self._field, self._start, self._state)
        answers = []
        for word, middle in lines:
            answers.append(board.answer(word, middle))
        if "done" in answers:
            self._past = self._past + (self._state,)
            self._later = ()
            self._state = board.state()
        return tuple(answers)

    def field(self):
        """The FIELD."""
        return self._field

    def cut(self):
        """The CUT now."""
        return self._state[0]

    def first(self):
        """The CUT of the beginning."""
        return self._start

    def held(self):
        """The set of the EDGES that are held."""
        return self._state[1]

    def undo(self):
        """Takes back the last say that did something: how many can be taken back then."""
        if self._past == ():
            raise NothingDone()
        self._later = self._later + (self._state,)
        self._state = self._past[-1]
        self._past = self._past[:-1]
        return len(self._past)

    def redo(self):
        """Does once more what was taken back last: how many says can be taken back then."""
        if self._later == ():
            raise NothingDone()
        self._past = self._past + (self._state,)
        self._state = self._later[-1]
        self._later = self._later[:-1]
        return len(self._past)

    def twin(self):
        """Another Desk like this one."""
        other = Desk(self._field, self._start)
        other._state, other._past, other._later = self._state, self._past, self._later
        return other

    def __eq__(self, other):
        """Whether other is a Desk with the same FIELD, first CUT, CUT and held EDGES."""
        if not isinstance(other, Desk):
            return False
        return self._field == other._field and self._start == other._start and self._state == other._state
