"""The nearest cut with told edges."""

from middledots.arms import steps_apart
from middledots.dots import arm_from, parities
from middledots.edges import check_crossing, check_middle, edges_there, given_edges_of, uncrossed
from middledots.errors import Unfit
from middledots.fewest import arms_at, fewest_between
from middledots.fields import given_field
from middledots.given import given_arm, given_pair
from middledots.lots import lots_beside
from middledots.nets import fits_cut, given_cut


def nearest_edge(edges, arm):
    """The one of edges, all at one MIDDLE, whose ARM has the shortest way from arm."""
    steps = [steps_apart(arm, arm_from(edge)) for edge in edges]
    return edges[steps.index(min(steps))]


def nearest_to(field, cut, edges):
    """The CUT with edges that is nearest to cut."""
    arms = arms_at(cut)
    lots = lots_beside(field, edges)
    return tuple(sorted([nearest_edge(lot, arm) for lot, arm in zip(lots, list(arms.values()))]))


def given_with_edges(field, cut, edges):
    """A FIELD, a CUT of it and EDGES that lie in it; Crossing(edge, other) if two of them cross."""
    field = given_field(field)
    cut, edges = given_cut(field, cut), given_edges_of(field, edges)
    check_crossing(edges)
    return (field, cut, edges)


def given_place(field, edges, middle):
    """A FIELD, EDGES that lie in it, and a pair of numbers; NoMiddle(middle) if that is no MIDDLE of field."""
    field = given_field(field)
    edges, middle = given_edges_of(field, edges), given_pair(middle)
    check_middle(field, middle)
    return (field, edges, middle)


def left_at(field, edges, middle):
    """The EDGES at this MIDDLE that lie in field and cross none of edges."""
    check_crossing(edges)
    return uncrossed(edges_there(field, middle), edges)


def nearest(field, cut, edges):
    """The CUT that has all of edges, rim ones apart, with the fewest TURNS from cut."""
    field, cut, edges = given_with_edges(field, cut, edges)
    return nearest_to(field, cut, edges)


def far_from(field, cut, edges):
    """The fewest TURNS from cut to that CUT."""
    field, cut, edges = given_with_edges(field, cut, edges)
    return fewest_between(cut, nearest_to(field, cut, edges))


def is_nearest(field, cut, edges, thing):
    """Whether thing is that CUT."""
    field, cut, edges = given_with_edges(field, cut, edges)
    return fits_cut(field, thing) and thing == nearest_to(field, cut, edges)


def arms_left(field, edges, middle):
    """The set of the ARMS of the EDGES at this MIDDLE that lie in field and cross none of edges."""
    field, edges, middle = given_place(field, edges, middle)
    return tuple(sorted([arm_from(edge) for edge in left_at(field, edges, middle)]))


def nearest_arm(field, edges, middle, arm):
    """The one of these with the shortest way from arm."""
    field, edges, middle = given_place(field, edges, middle)
    arm = given_arm(arm)
    if parities(arm) != parities(middle):
        raise Unfit()
    return arm_from(nearest_edge(left_at(field, edges, middle), arm))
