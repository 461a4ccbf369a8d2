"""Held edges: what can be turned beside them, and plans that leave them."""

from middledots.dots import added
from middledots.edges import given_held
from middledots.errors import NoEdge
from middledots.fewest import fewest_between, first_turns_between, given_both, plan_between
from middledots.fields import given_field
from middledots.lots import lots_beside, middle_at
from middledots.nets import Net, given_cut
from middledots.turns import fits_plan, leads_to, turns_of


def check_had(held, cuts):
    """NoEdge(edge) for the first one of held that not all of cuts have."""
    for edge in held:
        if not all([edge in cut for cut in cuts]):
            raise NoEdge(edge)


def given_both_held(field, cut, other, held):
    """A FIELD, two CUTS of it and HELD EDGES; NoEdge(edge) for the first of these that not both CUTS have."""
    field, cut, other = given_both(field, cut, other)
    held = given_held(field, held)
    check_had(held, (cut, other))
    return (field, cut, other, held)


def leaves(plan, held):
    """Whether none of held, EDGES of the CUT from which plan begins, is turned by it."""
    # What stands at the MIDDLE of a held EDGE is this EDGE, as long as no TURN is done there.
    barred = {added(low, high): True for low, high in held}
    return not any([middle in barred for middle in plan])


def in_both(field, cut, other):
    """The set of the EDGES that both CUTS have."""
    field, cut, other = given_both(field, cut, other)
    return tuple([edge for edge in cut if edge in other])


def loose(field, held):
    """The set of the MIDDLES at which two EDGES or more cross none of held."""
    field = given_field(field)
    held = given_held(field, held)
    return tuple([middle_at(lot) for lot in lots_beside(field, held) if len(lot) > 1])


def turns_held(field, cut, held):
    """The set of the TURNS of cut that turn none of held."""
    field = given_field(field)
    cut, held = given_cut(field, cut), given_held(field, held)
    check_had(held, (cut,))
    return tuple([middle for middle in turns_of(Net(field, cut)) if leaves((middle,), held)])


def fewest_held(field, cut, other, held):
    """The fewest TURNS of a PLAN from cut to other that leaves held."""
    field, cut, other, held = given_both_held(field, cut, other, held)
    # To leave what both CUTS have costs nothing.
    return fewest_between(cut, other)


def plan_held(field, cut, other, held):
    """A PLAN with so many TURNS that leads from cut to other and leaves held."""
    field, cut, other, held = given_both_held(field, cut, other, held)
    # No PLAN with the fewest TURNS turns what both CUTS have.
    return plan_between(field, cut, other)


def is_held_plan(field, cut, other, held, thing):
    """Whether thing is a PLAN, of however many TURNS, that leads from cut to other and leaves held."""
    field, cut, other, held = given_both_held(field, cut, other, held)
    return fits_plan(thing) and leaves(thing, held) and leads_to(field, cut, other, thing)


def last_turns(field, cut, other):
    """The set of the MIDDLES at which the last TURN of a PLAN with the fewest can be."""
    field, cut, other = given_both(field, cut, other)
    # Gone back, such a PLAN is one from other to cut, and its last TURN the first.
    return first_turns_between(field, other, cut)
