"""All cuts of a field that have some edges, or are made of some."""

from middledots.edges import check_crossing, given_edges_of
from middledots.errors import CanNot
from middledots.fields import given_field, numbers_of, rim_round
from middledots.given import given_count
from middledots.lots import chosen_among, cuts_among, lots_beside, lots_of, number_among
from middledots.nets import given_cut

MOST_CUTS = 2000


def without_rim(field, edges):
    """The set of those EDGES that are no rim EDGES."""
    rim = {edge: True for edge in rim_round(field)}
    return tuple([edge for edge in sorted(set(edges)) if edge not in rim])


def has_all(field, cut, edges):
    """Whether cut has all of edges, rim ones apart."""
    return all([edge in cut for edge in without_rim(field, edges)])


def cuts_with(field, edges):
    """The list, ascending, of the CUTS that have all of edges, rim ones apart; TooMany() if there are too many."""
    return cuts_among(lots_beside(field, edges), MOST_CUTS)


def all_cuts(field, edges):
    """The list, ascending, of the CUTS that have all of edges, rim ones apart."""
    field = given_field(field)
    edges = given_edges_of(field, edges)
    check_crossing(edges)
    return cuts_with(field, edges)


def cuts_out_of(field, edges):
    """The list, ascending, of the CUTS all of whose EDGES are among edges."""
    field = given_field(field)
    edges = given_edges_of(field, edges)
    lots = lots_of(without_rim(field, edges))
    if len(lots) < numbers_of(field)[3]:
        return []
    return cuts_among(lots, MOST_CUTS)


def many_beside(field, edges):
    """The tuple that tells how many EDGES are free beside edges at each MIDDLE, ascending."""
    field = given_field(field)
    edges = given_edges_of(field, edges)
    check_crossing(edges)
    return tuple([len(lot) for lot in lots_beside(field, edges)])


def cut_by_digits(field, edges, number):
    """The CUT with edges that number tells, MIDDLE by MIDDLE."""
    field = given_field(field)
    edges, number = given_edges_of(field, edges), given_count(number)
    check_crossing(edges)
    return chosen_among(lots_beside(field, edges), number)


def digits_of(field, edges, cut):
    """The least number that tells cut so."""
    field = given_field(field)
    edges, cut = given_edges_of(field, edges), given_cut(field, cut)
    check_crossing(edges)
    if not has_all(field, cut, edges):
        raise CanNot()
    return number_among(lots_beside(field, edges), cut)
