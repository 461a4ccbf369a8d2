"""What is sure: what can stand beside held edges, and what must."""

from middledots.arms import are_near, arms_along, steps_apart
from middledots.dots import added, arm_from, edge_with
from middledots.edges import edges_there, given_held, uncrossed
from middledots.errors import CanNot, Unfit
from middledots.fields import given_field, half_place_among
from middledots.given import fits_edge, given_edge
from middledots.lots import lots_beside, middle_at


def given_lots(field, edges):
    """For each MIDDLE of field, ascending, the list of the EDGES that can stand there beside the HELD EDGES."""
    field = given_field(field)
    return lots_beside(field, given_held(field, edges))


def given_place(field, edges, edge):
    """A FIELD, HELD EDGES of it, and an EDGE."""
    field = given_field(field)
    return (field, given_held(field, edges), given_edge(edge))


def lot_there(field, edges, edge):
    """The EDGES, ascending, at the MIDDLE of edge that can stand beside edges; none if it is no MIDDLE of field."""
    low, high = edge
    middle = added(low, high)
    if half_place_among(field, middle) != "inner":
        return []
    return uncrossed(edges_there(field, middle), edges)


def lot_with(field, edges, edge):
    """The EDGES at the MIDDLE of edge that can stand beside edges; Unfit() if edge is none of them."""
    lot = lot_there(field, edges, edge)
    if edge not in lot:
        raise Unfit()
    return lot


def near_in(lot, edge):
    """Those of lot with a neighbour of the ARM of edge."""
    return [own for own in lot if are_near(arm_from(own), arm_from(edge))]


def furthest(arms, start):
    """The greatest length of a WAY from start to one of arms, and an ARM where it ends."""
    return max([(steps_apart(start, arm), arm) for arm in arms])


def spread_of(lot):
    """The greatest length of a WAY between two ARMS of lot."""
    arms = [arm_from(edge) for edge in lot]
    # In a tree a longest way begins wherever a longest one from anywhere ends.
    _, far = furthest(arms, arms[0])
    return furthest(arms, far)[0]


def lots(field, edges):
    """The tuple of the pairs (middle, ARMS of those that can stand there beside edges), ascending."""
    found = given_lots(field, edges)
    return tuple([(middle_at(lot), tuple(sorted([arm_from(edge) for edge in lot]))) for lot in found])


def sure_edges(field, edges):
    """The set of the EDGES that are in each CUT with edges."""
    return tuple(sorted([lot[0] for lot in given_lots(field, edges) if len(lot) == 1]))


def is_sure(field, edges, edge):
    """Whether edge is in each CUT with edges."""
    field, edges, edge = given_place(field, edges, edge)
    return lot_there(field, edges, edge) == [edge]


def other_edge(field, edges, edge):
    """An EDGE that can stand beside edges in the place of edge, with a neighbour of its ARM."""
    field, edges, edge = given_place(field, edges, edge)
    near = near_in(lot_with(field, edges, edge), edge)
    if near == []:
        raise CanNot()
    return near[0]


def is_other_edge(field, edges, edge, thing):
    """Whether thing is such an EDGE."""
    field, edges, edge = given_place(field, edges, edge)
    return thing in near_in(lot_with(field, edges, edge), edge) and fits_edge(thing)


def lot_way(field, edges, edge, other):
    """The tuple of the EDGES at one MIDDLE whose ARMS are the WAY from that of edge to that of other."""
    field, edges, edge = given_place(field, edges, edge)
    other = given_edge(other)
    lot = lot_with(field, edges, edge)
    if other not in lot:
        raise Unfit()
    return tuple([edge_with(middle_at(lot), arm) for arm in arms_along(arm_from(edge), arm_from(other))])


def spread(field, edges):
    """The tuple of the pairs (middle, greatest length of a WAY between two ARMS there), ascending."""
    return tuple([(middle_at(lot), spread_of(lot)) for lot in given_lots(field, edges)])


def no_further(field, edges):
    """These lengths, added up: from one CUT with edges to another one lead no more TURNS."""
    return sum([spread_of(lot) for lot in given_lots(field, edges)])
