"""Edges of a field: which lie in it, which cross."""

from math import gcd

from middledots.dots import added, part_each_other, taken_off
from middledots.errors import Crossing, NoMiddle, Unfit
from middledots.fields import dots_of, given_field, half_place_among, middles_within, rim_round, sides_of
from middledots.given import fits_edges, fits_middle, given, given_edge, given_edges, given_pair


def is_free(sides, low, high):
    """Whether no DOT lies between the DOTS low and high, and no side between them: if half way is within, all is."""
    x, y = taken_off(high, low)
    return gcd(x, y) == 1 and not any([part_each_other((low, high), side) for side in sides])


def lies_among(field, edge):
    """Whether edge lies in field."""
    low, high = edge
    place = half_place_among(field, added(low, high))
    if place == "rim":
        return edge in rim_round(field)
    # An EDGE can leave a FIELD only where it crosses a side: no corner lies between its ends.
    return place == "inner" and is_free(sides_of(field), low, high)


def edges_among(field):
    """All EDGES that lie in field, rim EDGES apart, ascending."""
    dots, sides = dots_of(field), sides_of(field)
    middles = {middle: True for middle in middles_within(field)}
    found = []
    for at, low in enumerate(dots):
        ends = [high for high in dots[at + 1:] if added(low, high) in middles]
        found.extend([(low, high) for high in ends if is_free(sides, low, high)])
    return found


def crossed_behind(edges, at):
    """Those behind this place of the ascending EDGES that cross the one there."""
    edge = edges[at]
    found = []
    for other in edges[at + 1:]:
        # Whatever begins no further left than edge ends does not cross it, nor do all that are behind.
        if other[0][0] >= edge[1][0]:
            break
        if part_each_other(edge, other):
            found.append(other)
    return found


def first_pair(edges):
    """The least pair of the EDGES that cross; None without."""
    own = sorted(set(edges))
    for at, edge in enumerate(own):
        crossed = crossed_behind(own, at)
        if crossed:
            return (edge, crossed[0])
    return None


def all_lie(field, edges):
    """Whether all of edges lie in field."""
    return all([lies_among(field, edge) for edge in edges])


def stand_among(field, edges):
    """Whether all of edges lie in field, and no two cross."""
    return all_lie(field, edges) and first_pair(edges) is None


def fits_held(field, thing):
    """Whether thing is a set of EDGES that stand together in field."""
    return fits_edges(thing) and stand_among(field, thing)


def given_held(field, value):
    """HELD EDGES of field."""
    return given(value, 3, lambda own: fits_held(field, own))


def check_inside(field, edges):
    """Unfit() if one of edges does not lie in field."""
    if not all_lie(field, edges):
        raise Unfit()


def check_crossing(edges):
    """Crossing(edge, other) if two of edges cross."""
    pair = first_pair(edges)
    if pair is not None:
        edge, other = pair
        raise Crossing(edge, other)


def check_middle(field, middle):
    """NoMiddle(middle) if the pair is no MIDDLE of field."""
    if not fits_middle(middle) or half_place_among(field, middle) != "inner":
        raise NoMiddle(middle)


def given_edges_of(field, value):
    """A tuple, maybe (), of EDGES that lie in field."""
    edges = given_edges(value)
    check_inside(field, edges)
    return edges


def edges_there(field, middle):
    """The EDGES at this MIDDLE of field that lie in it, ascending."""
    sides = sides_of(field)
    pairs = [(low, taken_off(middle, low)) for low in dots_of(field)]
    return [(low, high) for low, high in pairs if low < high and is_free(sides, low, high)]


def uncrossed(found, edges):
    """Those EDGES of found that cross none of edges."""
    for edge in edges:
        found = [own for own in found if not part_each_other(own, edge)]
    return found


def lies_in(field, edge):
    """Whether edge lies in field."""
    return lies_among(given_field(field), given_edge(edge))


def edges_in(field):
    """The set of all EDGES that lie in field, rim EDGES apart."""
    return tuple(edges_among(given_field(field)))


def edges_at(field, middle):
    """The set of those of them with this MIDDLE."""
    field, middle = given_field(field), given_pair(middle)
    check_middle(field, middle)
    return tuple(edges_there(field, middle))


def crossings(edges):
    """The set of the pairs of unlike EDGES of them that cross."""
    own = sorted(set(given_edges(edges)))
    return tuple([(edge, other) for at, edge in enumerate(own) for other in crossed_behind(own, at)])


def first_crossing(edges):
    """The least of these pairs; None without."""
    return first_pair(given_edges(edges))


def stand_together(field, edges):
    """Whether all of edges lie in field, and no two cross."""
    return stand_among(given_field(field), given_edges(edges))


def edges_beside(field, edges):
    """The set of those EDGES that lie in field, rim EDGES apart, and cross none of edges."""
    field, edges = given_field(field), given_edges(edges)
    check_crossing(edges)
    check_inside(field, edges)
    return tuple(uncrossed(edges_among(field), edges))


def most_at(field):
    """The set of the MIDDLES with the most EDGES at them."""
    many = {}
    for low, high in edges_among(given_field(field)):
        middle = added(low, high)
        many[middle] = many.get(middle, 0) + 1
    most = max(many.values(), default=0)
    return tuple(sorted([middle for middle in many if many[middle] == most]))
