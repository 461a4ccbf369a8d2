"""Turns: an edge of a cut turned about its middle, one after another."""

from middledots.cuts import given_net_at
from middledots.errors import Broken, CanNot
from middledots.fields import given_field
from middledots.given import fits_pair, given_all
from middledots.nets import Net, given_cut


def fits_plan(thing):
    """Whether thing is a tuple, maybe (), of pairs of numbers."""
    return isinstance(thing, tuple) and all([fits_pair(middle) for middle in thing])


def given_plan(value):
    """A tuple, maybe (), of pairs of numbers."""
    return given_all(value, 1, fits_pair)


def first_broken(net, plan):
    """Does the TURNS of plan one after another: the first place whose MIDDLE is none; None if all are done."""
    for place, middle in enumerate(plan):
        if not net.can_turn(middle):
            return place
        net.turn(middle)
    return None


def leads_to(field, cut, other, plan):
    """Whether plan, pairs of numbers, is a PLAN that leads from cut to other."""
    net = Net(field, cut)
    return first_broken(net, plan) is None and net.cut() == other


def turns_of(net):
    """The TURNS of the cut of net, ascending."""
    return [middle for middle in sorted(net.at) if net.can_turn(middle)]


def given_turn(field, cut, middle):
    """The net of this CUT, and the pair middle: NoMiddle(middle) if it is no MIDDLE of field, CanNot() if no TURN."""
    net, middle = given_net_at(field, cut, middle)
    if not net.can_turn(middle):
        raise CanNot()
    return (net, middle)


def new_edge(field, cut, middle):
    """The EDGE that comes when the one at this MIDDLE is turned."""
    net, middle = given_turn(field, cut, middle)
    return net.far_pair(middle)


def can_turn(field, cut, middle):
    """Whether the EDGE at this MIDDLE can be turned."""
    net, middle = given_net_at(field, cut, middle)
    return net.can_turn(middle)


def turns(field, cut):
    """The set of all TURNS of cut."""
    field = given_field(field)
    return tuple(turns_of(Net(field, given_cut(field, cut))))


def turned(field, cut, middle):
    """The CUT behind this TURN."""
    net, middle = given_turn(field, cut, middle)
    net.turn(middle)
    return net.cut()


def behind(field, cut, plan):
    """The CUT behind the TURNS of plan."""
    field = given_field(field)
    cut, plan = given_cut(field, cut), given_plan(plan)
    net = Net(field, cut)
    place = first_broken(net, plan)
    if place is not None:
        raise Broken(place)
    return net.cut()


def cuts_along(field, cut, plan):
    """The list of all CUTS on the way, cut first."""
    field = given_field(field)
    cut, plan = given_cut(field, cut), given_plan(plan)
    net = Net(field, cut)
    found = [cut]
    for place, middle in enumerate(plan):
        if first_broken(net, (middle,)) is not None:
            raise Broken(place)
        found.append(net.cut())
    return found


def is_turned_by(field, cut, thing):
    """Whether thing is a PLAN from cut on."""
    field = given_field(field)
    net = Net(field, given_cut(field, cut))
    return fits_plan(thing) and first_broken(net, thing) is None


def undone(plan):
    """The PLAN that leads back from behind plan."""
    return given_plan(plan)[::-1]
