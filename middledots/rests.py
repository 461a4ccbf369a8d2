"""Rests: what is left of a field when triangles are taken off, one after another."""

from middledots.dots import area_round, part_each_other, steps_between, told_edge, turn_at
from middledots.edges import edges_among, first_pair
from middledots.errors import TooMany
from middledots.fields import dots_of, dots_round, rim_round
from middledots.given import fits_pair

MOST_RESTS = 5000


class Rests:
    """The RESTS of a field, with the tips of each and what is behind them: found once, when first asked for."""

    def __init__(self, field):
        self.first = tuple(dots_round(field))
        self.dots = dots_of(field)
        self.rim = {edge: True for edge in rim_round(field)}
        self.inside = {edge: True for edge in edges_among(field)}
        self.near = {}
        self.steps = {}

    def lie(self, edges):
        """Whether all of edges lie in the field."""
        return all([edge in self.inside or edge in self.rim for edge in edges])

    def dots_near(self, start, end):
        """Those DOTS that make a least triangle, to the left of the EDGE from start to end, within the field."""
        if (start, end) not in self.near:
            left = [dot for dot in self.dots if turn_at(start, end, dot) == 1]
            self.near[start, end] = [dot for dot in left if self.lie(sides_to(start, end, dot))]
        return self.near[start, end]

    def steps_from(self, rest):
        """For each tip of rest, ascending: (both sides that lead to it, the RESTS behind it)."""
        if rest not in self.steps:
            start, end = base_way(rest)
            # What lies in the field crosses none of its rim EDGES.
            walls = [edge for edge in rim_of(rest) if edge not in self.rim]
            tips = tips_among(rest, self.dots_near(start, end), walls)
            self.steps[rest] = [(sides_to(start, end, tip), rests_without(rest, tip)) for tip in tips]
        return self.steps[rest]

    def coming(self, edges):
        """The RESTS that come, each with its steps that cross none of edges; TooMany() if they are too many."""
        found = {self.first: []}
        waiting = [self.first]
        while waiting:
            rest = waiting.pop()
            steps = [step for step in self.steps_from(rest) if not any_cross(step[0], edges)]
            found[rest] = steps
            for _, behind in steps:
                later = [part for part in behind if part not in found]
                found.update({part: [] for part in later})
                waiting.extend(later)
            if len(found) > MOST_RESTS:
                raise TooMany()
        return found


def fits_rest(thing):
    """Whether thing is a REST."""
    if not isinstance(thing, tuple) or len(thing) < 3 or not all([fits_pair(dot) for dot in thing]):
        return False
    if thing[0] != min(thing) or len(set(thing)) < len(thing) or area_round(thing) <= 0:
        return False
    # No DOT lies within an EDGE: so a way round by EDGES meets itself only where two of them cross.
    edges = rim_of(thing)
    return all([steps_between(low, high) == 1 for low, high in edges]) and first_pair(edges) is None


def rim_of(rest):
    """The rim EDGES."""
    return [told_edge(rest[at - 1], rest[at]) for at in range(len(rest))]


def base_way(rest):
    """Both ends of the base, with the inside to the left."""
    return (rest[0], rest[1]) if rest[1] < rest[-1] else (rest[-1], rest[0])


def sides_to(start, end, tip):
    """The EDGES from both ends of a base to the tip."""
    return (told_edge(start, tip), told_edge(end, tip))


def any_cross(edges, others):
    """Whether one of edges crosses one of others."""
    return any([part_each_other(edge, other) for edge in edges for other in others])


def tips_among(rest, dots, walls):
    """Those of dots that are tips of rest, if walls are those of its rim EDGES that may be crossed."""
    start, end = base_way(rest)
    # No rim EDGE goes into a triangle whose sides it does not cross, so all of it lies within the REST, its tip too.
    left = [dot for dot in dots if turn_at(start, end, dot) == 1]
    return [dot for dot in left if not any_cross(sides_to(start, end, dot), walls)]


def rests_without(rest, tip):
    """The set of the RESTS behind a tip."""
    end = base_way(rest)[1]
    place = rest.index(end)
    round_on = rest[place:] + rest[:place]
    if tip not in round_on:
        return (least_ahead(round_on + (tip,)),)
    at = round_on.index(tip)
    parts = [part for part in (round_on[:at + 1], round_on[at:]) if len(part) > 2]
    return tuple(sorted([least_ahead(part) for part in parts]))


def least_ahead(dots):
    """The DOTS of a way round, begun at the least one."""
    at = dots.index(min(dots))
    return dots[at:] + dots[:at]


def multiplied(many, rests):
    """How many CUTS these RESTS have together, told how many each of them has."""
    whole = 1
    for rest in rests:
        whole = whole * many[rest]
    return whole


def counted(coming):
    """For each of the RESTS that come how many CUTS of it there are by their steps."""
    many = {}
    # What is behind a tip has less area: so it is counted ahead.
    for rest in sorted(list(coming), key=area_round):
        many[rest] = sum([multiplied(many, behind) for _, behind in coming[rest]])
    return many
