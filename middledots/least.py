"""Least cuts: those that no turn shortens."""

from middledots.dots import square_along
from middledots.errors import TooMany
from middledots.fields import given_field
from middledots.lots import lots_beside, middle_at
from middledots.nets import Net, given_cut
from middledots.turns import fits_plan

MOST_LEAST = 2000


def shortens(net, middle):
    """Whether the pair is a TURN of the cut of net by which its EDGE becomes shorter."""
    return net.can_turn(middle) and square_along(net.far_pair(middle)) < square_along(net.at[middle])


def turns_shortening(net):
    """The TURNS of the cut of net that shorten, ascending."""
    return [middle for middle in sorted(net.at) if shortens(net, middle)]


def go_down(net):
    """Does TURNS that shorten as long as there are some: the PLAN that was done."""
    plan = []
    found = turns_shortening(net)
    while found:
        # What a TURN shortens is the longest side of its triangles: no two such have one in common, so all can be done.
        for middle in found:
            net.turn(middle)
        plan.extend(found)
        found = turns_shortening(net)
    return tuple(plan)


def goes_down(net, plan):
    """Does TURNS of plan one after another, as long as they shorten: whether all do, and no TURN behind them does."""
    for middle in plan:
        if not shortens(net, middle):
            return False
        net.turn(middle)
    return turns_shortening(net) == []


def least_lots(field):
    """For each MIDDLE, ascending, the list, ascending, of the shortest EDGES there: those of least CUTS."""
    # Each EDGE that lies in field is in some CUT, and no CUT has a shorter one somewhere than the least CUTS.
    found = []
    for lot in lots_beside(field, ()):
        least = min([square_along(edge) for edge in lot])
        found.append([edge for edge in lot if square_along(edge) == least])
    return found


def many_out_of(lots):
    """In how many ways one EDGE of each lot can be chosen."""
    many = 1
    for lot in lots:
        many = many * len(lot)
    return many


def given_net(field, cut):
    """The net of this CUT of this FIELD."""
    field = given_field(field)
    return Net(field, given_cut(field, cut))


def squares(field, cut):
    """The squares of the ARMS of cut, added up."""
    field = given_field(field)
    return sum([square_along(edge) for edge in given_cut(field, cut)])


def shortening(field, cut):
    """The set of the TURNS of cut that shorten."""
    return tuple(turns_shortening(given_net(field, cut)))


def is_least(field, cut):
    """Whether no TURN of cut shortens."""
    return turns_shortening(given_net(field, cut)) == []


def way_down(field, cut):
    """A PLAN of TURNS that shorten, behind which a least CUT stands."""
    return go_down(given_net(field, cut))


def is_way_down(field, cut, thing):
    """Whether thing is such a PLAN."""
    net = given_net(field, cut)
    return fits_plan(thing) and goes_down(net, thing)


def turns_down(field, cut):
    """How many TURNS such a PLAN has."""
    return len(go_down(given_net(field, cut)))


def least_behind(field, cut):
    """The least CUT behind such a PLAN."""
    net = given_net(field, cut)
    go_down(net)
    return net.cut()


def loose_middles(field):
    """The set of the MIDDLES at which least CUTS can differ."""
    return tuple([middle_at(lot) for lot in least_lots(given_field(field)) if len(lot) > 1])


def many_least(field):
    """How many least CUTS there are."""
    return many_out_of(least_lots(given_field(field)))


def least_cuts(field):
    """The list, ascending, of the least CUTS."""
    lots = least_lots(given_field(field))
    if many_out_of(lots) > MOST_LEAST:
        raise TooMany()
    # Whatever stands at the loose MIDDLES: nothing crosses there.
    chosen = [[]]
    for lot in lots:
        chosen = [edges + [edge] for edges in chosen for edge in lot]
    return sorted([tuple(sorted(edges)) for edges in chosen])


def least_squares(field):
    """The tuple of the pairs (middle, square in the least CUTS), ascending."""
    return tuple([(middle_at(lot), square_along(lot[0])) for lot in least_lots(given_field(field))])
