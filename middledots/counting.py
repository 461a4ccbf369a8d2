"""Counting the cuts of a field, and telling them by numbers."""

from middledots.edges import check_crossing, check_middle, edges_there, given_edges_of
from middledots.errors import CanNot, NoDot
from middledots.fields import dots_of, dots_round, given_field
from middledots.given import given, given_count, given_dot, given_pair
from middledots.nets import given_cut
from middledots.rests import Rests, counted, fits_rest, multiplied, rests_without, rim_of, tips_among


def given_rest(value):
    """A REST."""
    return given(value, 2, fits_rest)


def tips_of(rest):
    """The tips of rest, ascending."""
    return tips_among(rest, dots_of(rest), rim_of(rest))


def counted_with(rests, edges):
    """How many CUTS have all of edges."""
    return counted(rests.coming(edges))[rests.first]


def is_rest(thing):
    """Whether thing is a REST."""
    return fits_rest(thing)


def rest_of(field):
    """The REST of the whole field."""
    return tuple(dots_round(given_field(field)))


def base_edge(rest):
    """The base of rest."""
    return min(rim_of(given_rest(rest)))


def tips(rest):
    """The set of the tips of rest."""
    return tuple(tips_of(given_rest(rest)))


def rests_behind(rest, dot):
    """The set of the RESTS behind this tip of rest."""
    rest, dot = given_rest(rest), given_dot(dot)
    if dot not in tips_of(rest):
        raise NoDot(dot)
    return rests_without(rest, dot)


def many_cuts(field, edges):
    """How many CUTS have all of edges, rim ones apart."""
    field = given_field(field)
    edges = given_edges_of(field, edges)
    check_crossing(edges)
    return counted_with(Rests(field), edges)


def many_rests(field, edges):
    """How many unlike RESTS come, behind tips whose triangles cross none of edges."""
    field = given_field(field)
    edges = given_edges_of(field, edges)
    check_crossing(edges)
    return len(Rests(field).coming(edges))


def counts_at(field, middle):
    """The tuple of the pairs (edge, how many CUTS have it) of the EDGES at this MIDDLE."""
    field, middle = given_field(field), given_pair(middle)
    check_middle(field, middle)
    rests = Rests(field)
    return tuple([(edge, counted_with(rests, (edge,))) for edge in edges_there(field, middle)])


def cut_number(field, cut):
    """The number of cut among the CUTS in order."""
    field = given_field(field)
    cut = given_cut(field, cut)
    rests = Rests(field)
    coming = rests.coming(())
    many = counted(coming)
    own = {edge: True for edge in list(cut) + rim_of(rests.first)}
    number = 0
    waiting = [(rests.first, 1)]
    while waiting:
        rest, weight = waiting.pop()
        for (side, other), behind in coming[rest]:
            if side in own and other in own:
                waiting.extend([(part, weight * multiplied(many, behind[at + 1:])) for at, part in enumerate(behind)])
                break
            number += weight * multiplied(many, behind)
    return number


def cut_by_number(field, number):
    """The CUT with this number among the CUTS in order."""
    field, number = given_field(field), given_count(number)
    rests = Rests(field)
    coming = rests.coming(())
    many = counted(coming)
    if number >= many[rests.first]:
        raise CanNot()
    sides = {}
    waiting = [(rests.first, number)]
    while waiting:
        rest, left = waiting.pop()
        at = 0
        while left >= multiplied(many, coming[rest][at][1]):
            left = left - multiplied(many, coming[rest][at][1])
            at += 1
        (side, other), behind = coming[rest][at]
        sides[side] = sides[other] = True
        for part in behind[::-1]:
            left, own = divmod(left, many[part])
            waiting.append((part, own))
    return tuple([edge for edge in sorted(sides) if edge not in rests.rim])
