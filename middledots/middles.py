"""Cuts in the middle of many, and between two."""

from middledots.arms import arms_along
from middledots.dots import edge_with
from middledots.errors import Unfit
from middledots.fewest import arms_at, fewest_between, given_both
from middledots.fields import given_field
from middledots.given import given_all
from middledots.halves import median_among
from middledots.lots import cuts_among
from middledots.nets import fits_cut, given_cut

MOST_BETWEEN = 2000


def given_cuts(field, value):
    """A tuple of an odd number of CUTS of field."""
    cuts = given_all(value, 3, lambda own: fits_cut(field, own))
    if len(cuts) % 2 == 0:
        raise Unfit()
    return cuts


def middle_one(cuts):
    """The middle one of cuts."""
    arms = [arms_at(cut) for cut in cuts]
    return tuple(sorted([edge_with(middle, median_among([own[middle] for own in arms])) for middle in arms[0]]))


def median_cut(field, cuts):
    """The middle one of cuts."""
    field = given_field(field)
    return middle_one(given_cuts(field, cuts))


def is_middle(field, cuts, thing):
    """Whether thing is the middle one of cuts."""
    field = given_field(field)
    cuts = given_cuts(field, cuts)
    return fits_cut(field, thing) and thing == middle_one(cuts)


def majority(field, cuts):
    """The set of the EDGES that are in more than half of cuts."""
    field = given_field(field)
    cuts = given_cuts(field, cuts)
    many = {}
    for edge in [edge for cut in cuts for edge in cut]:
        many[edge] = many.get(edge, 0) + 1
    return tuple([edge for edge in sorted(many) if 2 * many[edge] > len(cuts)])


def sum_to(field, cut, cuts):
    """The fewest TURNS from cut to each of cuts, added up."""
    field = given_field(field)
    cut, cuts = given_cut(field, cut), given_cuts(field, cuts)
    return sum([fewest_between(cut, own) for own in cuts])


def is_between(field, cut, other, thing):
    """Whether thing is a CUT between cut and other."""
    field, cut, other = given_both(field, cut, other)
    if not fits_cut(field, thing):
        return False
    return fewest_between(cut, thing) + fewest_between(thing, other) == fewest_between(cut, other)


def between(field, cut, other):
    """The list, ascending, of all CUTS between cut and other."""
    field, cut, other = given_both(field, cut, other)
    arms, others = arms_at(cut), arms_at(other)
    lots = [[edge_with(middle, arm) for arm in arms_along(arms[middle], others[middle])] for middle in arms]
    return cuts_among(lots, MOST_BETWEEN)
