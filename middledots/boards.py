"""Boards: lines of text that ask for something, and the answers to them."""

from middledots.dots import added
from middledots.errors import BadText
from middledots.fewest import fewest_between
from middledots.nets import Net
from middledots.signs import number_told
from middledots.turns import turns_of

# The words with which lines begin, and how many numbers stand behind each.
WORDS = {"turn": 2, "hold": 2, "free": 2, "edge": 2, "turns": 0, "held": 0, "far": 0}
MOST_FIGURES = 7


def read_line(line):
    """What a line tells: the pair (word, numbers); None if it is none that can be answered."""
    words = line.split(" ")
    numbers = tuple([number_told(word, MOST_FIGURES) for word in words[1:]])
    if words[0] not in WORDS or len(numbers) != WORDS[words[0]] or None in numbers:
        return None
    return (words[0], numbers)


def read_lines(text):
    """What the lines of text tell; BadText(line) for the first one that can not be answered."""
    found = []
    for at, line in enumerate(text.split("\n")):
        told = read_line(line)
        if told is None:
            raise BadText(at)
        found.append(told)
    return found


def pairs_told(pairs):
    """The answer that tells these pairs of numbers, in this order."""
    if len(pairs) == 0:
        return "none"
    return ", ".join([f"{x} {y}" for x, y in pairs])


class Board:
    """A CUT that is turned line by line, and the MIDDLES at which its EDGES are held."""

    def __init__(self, field, start, state):
        cut, held = state
        self.start = start
        self.net = Net(field, cut)
        self.kept = {added(low, high): True for low, high in held}

    def state(self):
        """The CUT that has come, and the set of the EDGES of it that are held."""
        return (self.net.cut(), tuple(sorted([self.net.at[middle] for middle in self.kept])))

    def answer(self, word, middle):
        """Does what a line asks for: the answer to it; middle is () if it tells none."""
        if word == "turns":
            return pairs_told([own for own in turns_of(self.net) if own not in self.kept])
        if word == "held":
            return pairs_told(sorted(self.kept))
        if word == "far":
            return str(fewest_between(self.start, self.net.cut()))
        if middle not in self.net.at:
            return "no middle"
        if word == "edge":
            return pairs_told(self.net.at[middle])
        return self.change(word, middle)

    def change(self, word, middle):
        """Turns, holds or frees the EDGE at a MIDDLE of the field, if nothing stands against it: the answer."""
        if word == "free":
            if middle not in self.kept:
                return "free"
            del self.kept[middle]
        elif middle in self.kept:
            return "held"
        elif word == "hold":
            self.kept[middle] = True
        elif self.net.can_turn(middle):
            self.net.turn(middle)
        else:
            return "no turn"
        return "done"
