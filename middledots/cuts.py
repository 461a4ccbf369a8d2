"""Cuts: fields parted into least triangles."""

from middledots.dots import area_round
from middledots.edges import check_crossing, given_edges_of
from middledots.errors import CanNot, NoMiddle, Unfit
from middledots.fields import given_field, rim_round
from middledots.given import ascends, fits_pair, given, given_all, given_pair
from middledots.lots import first_cut_with
from middledots.nets import Net, fits_cut, given_cut


def sides_round(triangle):
    """The three sides, EDGES, of a triple of DOTS, ascending as the DOTS are."""
    low, between, high = triangle
    return ((low, between), (low, high), (between, high))


def fits_triangle(thing):
    """Whether thing is a triple of DOTS, ascending, with doubled area 1 by size."""
    if not isinstance(thing, tuple) or len(thing) != 3 or not all([fits_pair(dot) for dot in thing]):
        return False
    return ascends(thing) and abs(area_round(thing)) == 1


def given_triangles(value):
    """A set of such triples."""
    triangles = given_all(value, 2, fits_triangle)
    if not ascends(triangles):
        raise Unfit()
    return triangles


def given_net_at(field, cut, middle):
    """The net of this CUT of this FIELD, and the pair middle; NoMiddle(middle) if it is no MIDDLE of field."""
    field = given_field(field)
    net, middle = Net(field, given_cut(field, cut)), given_pair(middle)
    if middle not in net.at:
        raise NoMiddle(middle)
    return (net, middle)


def is_cut(field, thing):
    """Whether thing is a CUT of field."""
    return fits_cut(given_field(field), thing)


def completed(field, edges):
    """The CUT with edges that has at each other MIDDLE, one after another, the least EDGE that can stand there."""
    field = given_field(field)
    edges = given_edges_of(field, edges)
    check_crossing(edges)
    return first_cut_with(field, edges)


def edge_in(field, cut, middle):
    """The EDGE of cut at this MIDDLE."""
    net, middle = given_net_at(field, cut, middle)
    return net.at[middle]


def triangles(field, cut):
    """The set of the triangles of cut."""
    field = given_field(field)
    return tuple(Net(field, given_cut(field, cut)).triangles())


def far_dots(field, cut, middle):
    """The pair, ascending, of the far dots of the EDGE of cut there."""
    net, middle = given_net_at(field, cut, middle)
    return net.far_pair(middle)


def three_sides(triangle):
    """The triple of the sides of a least triangle, ascending."""
    return sides_round(given(triangle, 2, fits_triangle))


def cut_of(field, triangles):
    """The CUT of field with these triangles."""
    field = given_field(field)
    triangles = given_triangles(triangles)
    rim = {edge: True for edge in rim_round(field)}
    sides = sorted(set([side for triangle in triangles for side in sides_round(triangle)]))
    cut = tuple([side for side in sides if side not in rim])
    # Each least triangle whose sides are in a CUT or the rim is one of its own: so as many are all of its own.
    if len(triangles) != area_round(field) or not fits_cut(field, cut):
        raise CanNot()
    return cut
