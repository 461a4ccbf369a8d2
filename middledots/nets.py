"""Nets: the edges of a cut and of the rim, told by their middles and dot by dot."""

from middledots.dots import added, told_edge, turn_at
from middledots.fields import dots_round, numbers_of
from middledots.given import fits_edges, given


class Net:
    """A cut that can be turned: the EDGE at each MIDDLE, and for each DOT those to which EDGES lead, rim EDGES too."""

    def __init__(self, field, cut):
        self.at = {added(low, high): (low, high) for low, high in cut}
        self.rim = tuple(ways_round(field))
        self.near = {}
        for low, high in (*cut, *self.rim):
            self.tie(low, high)

    def tie(self, low, high):
        """From now on an EDGE is between both DOTS."""
        self.near.setdefault(low, {})[high] = True
        self.near.setdefault(high, {})[low] = True

    def untie(self, low, high):
        """From now on no EDGE is between both DOTS."""
        del self.near[low][high]
        del self.near[high][low]

    def thirds(self, low, high):
        """The third corners of the least triangles that have an EDGE between both DOTS as a side."""
        few, many = sorted([self.near[low], self.near[high]], key=len)
        return [dot for dot in few if dot in many and abs(turn_at(low, high, dot)) == 1]

    def far_pair(self, middle):
        """The pair, ascending, of the far dots of the EDGE there."""
        low, high = self.at[middle]
        one, two = self.thirds(low, high)
        return told_edge(one, two)

    def can_turn(self, middle):
        """Whether the pair is a TURN."""
        if middle not in self.at:
            return False
        one, two = self.far_pair(middle)
        return added(one, two) == middle

    def turn(self, middle):
        """Does this TURN."""
        low, high = self.at[middle]
        one, two = self.far_pair(middle)
        self.untie(low, high)
        self.tie(one, two)
        self.at[middle] = (one, two)

    def cut(self):
        """The cut that has come."""
        return tuple(sorted(self.at.values()))

    def turn_signs(self, low, high):
        """For each of these triangles: 1 if it lies to the left of the way from low to high, -1 if to the right."""
        return sorted([turn_at(low, high, dot) for dot in self.thirds(low, high)])

    def covers(self):
        """Whether each EDGE has one triangle on each side, each rim EDGE one within alone."""
        # The ways round such triangles, added up, are the way round the FIELD: all else is gone to and fro. So they
        # cover each point of it just once, and no other point: they are its parts, and no two of their sides cross.
        inner = [self.turn_signs(low, high) == [-1, 1] for low, high in self.at.values()]
        return all(inner) and all([self.turn_signs(start, end) == [1] for start, end in self.rim])

    def triangles(self):
        """The triangles, ascending."""
        sides = list(self.at.values()) + list(self.rim)
        return sorted(set([tuple(sorted((a, b, c))) for a, b in sides for c in self.thirds(a, b)]))


def ways_round(field):
    """The rim EDGES, side by side, each a pair of DOTS with field to the left."""
    dots = dots_round(field)
    return [(dots[at - 1], dots[at]) for at in range(len(dots))]


def fits_cut(field, thing):
    """Whether thing is a CUT of field."""
    if not isinstance(thing, tuple) or len(thing) != numbers_of(field)[3] or not fits_edges(thing):
        return False
    net = Net(field, thing)
    return len(net.at) == len(thing) and net.covers()


def given_cut(field, value):
    """A CUT of field."""
    return given(value, 3, lambda own: fits_cut(field, own))
