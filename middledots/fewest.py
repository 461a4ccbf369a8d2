"""The fewest turns from one cut to another, and plans that do with them."""

from middledots.arms import arms_along, steps_apart
from middledots.dots import added, arm_from, square_along
from middledots.errors import CanNot
from middledots.fields import given_field
from middledots.nets import Net, given_cut
from middledots.turns import fits_plan, leads_to


def arms_at(cut):
    """The ARM at each MIDDLE, the MIDDLES ascending."""
    arms = {added(low, high): arm_from((low, high)) for low, high in cut}
    return {middle: arms[middle] for middle in sorted(arms)}


def unlike_arms(cut, other):
    """The triples (middle, arm, other one), ascending, for each MIDDLE at which the EDGES of both are unlike."""
    arms, others = arms_at(cut), arms_at(other)
    return [(middle, arms[middle], others[middle]) for middle in arms if arms[middle] != others[middle]]


def fewest_between(cut, other):
    """The fewest TURNS from one CUT of a field to another one."""
    return sum([steps_apart(arm, goal) for _, arm, goal in unlike_arms(cut, other)])


def in_one_alone(cut, other):
    """The EDGES that are in one of both CUTS alone, ascending."""
    return sorted(set(cut) ^ set(other))


def square_first(edge):
    """What EDGES are ordered by: the square of the length, then the EDGE."""
    return (square_along(edge), edge)


def ways_between(cut, other):
    """The WAYS of two CUTS of a field."""
    return tuple([(middle, arms_along(arm, goal)) for middle, arm, goal in unlike_arms(cut, other)])


def plan_between(field, cut, other):
    """A PLAN that leads from cut to other with the fewest TURNS."""
    near, far = Net(field, cut), Net(field, other)
    ahead, back = [], []
    apart = [share[0] for share in unlike_arms(cut, other)]
    while apart:
        # Of all unlike EDGES a longest one can be turned in its CUT, which then stands nearer.
        low, high = max([edge for middle in apart for edge in (near.at[middle], far.at[middle])], key=square_first)
        middle = added(low, high)
        net, turns_done = (near, ahead) if near.at[middle] == (low, high) else (far, back)
        net.turn(middle)
        turns_done.append(middle)
        if near.at[middle] == far.at[middle]:
            apart.remove(middle)
    return tuple(ahead + back[::-1])


def first_turns_between(field, cut, other):
    """The TURNS of cut, ascending, with which a PLAN to other with the fewest TURNS can begin."""
    net = Net(field, cut)
    found = []
    for middle, arm, goal in unlike_arms(cut, other):
        # A TURN leads to a neighbour of the ARM: nearer by one, or further by one.
        if net.can_turn(middle) and steps_apart(arm_from(net.far_pair(middle)), goal) < steps_apart(arm, goal):
            found.append(middle)
    return tuple(found)


def given_both(field, cut, other):
    """A FIELD and two CUTS of it."""
    field = given_field(field)
    return (field, given_cut(field, cut), given_cut(field, other))


def fewest(field, cut, other):
    """The fewest TURNS that lead from cut to other."""
    field, cut, other = given_both(field, cut, other)
    return fewest_between(cut, other)


def ways(field, cut, other):
    """The WAYS of both CUTS."""
    field, cut, other = given_both(field, cut, other)
    return ways_between(cut, other)


def shares(field, cut, other):
    """The tuple of the pairs (middle, length), ascending, for each of the WAYS."""
    field, cut, other = given_both(field, cut, other)
    return tuple([(middle, steps_apart(arm, goal)) for middle, arm, goal in unlike_arms(cut, other)])


def plan(field, cut, other):
    """A PLAN that leads from cut to other with the fewest TURNS."""
    field, cut, other = given_both(field, cut, other)
    return plan_between(field, cut, other)


def is_plan(field, cut, other, thing):
    """Whether thing is a PLAN that leads from cut to other with the fewest TURNS."""
    field, cut, other = given_both(field, cut, other)
    return fits_plan(thing) and len(thing) == fewest_between(cut, other) and leads_to(field, cut, other, thing)


def first_turns(field, cut, other):
    """The set of those TURNS of cut with which such a PLAN can begin."""
    field, cut, other = given_both(field, cut, other)
    return first_turns_between(field, cut, other)


def longest_unlike(field, cut, other):
    """Of the EDGES that are in one of both CUTS alone the greatest by length, then by comparison."""
    field, cut, other = given_both(field, cut, other)
    if cut == other:
        raise CanNot()
    return max(in_one_alone(cut, other), key=square_first)
