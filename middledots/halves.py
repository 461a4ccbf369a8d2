"""Halves of the trees of arms, and the arms in the middle of many."""

from middledots.arms import are_near, arm_between, mate_of, steps_apart
from middledots.dots import added, outer, parities, part_each_other, signed_arm, taken_off, times
from middledots.errors import CanNot
from middledots.given import given_arm, given_arms, given_edge


def check_kinds(arms):
    """CanNot() if the ARMS are not all of one KIND."""
    if len(set([parities(arm) for arm in arms])) > 1:
        raise CanNot()


def base_between(arm, other):
    """The pairs u, w of which arm is u + w and other is u - w; CanNot() if both are no neighbours."""
    if not are_near(arm, other):
        raise CanNot()
    (x, y), (less_x, less_y) = added(arm, other), taken_off(arm, other)
    return ((x // 2, y // 2), (less_x // 2, less_y // 2))


def stands_in_half(base, third):
    """Whether third, x u + y w with base (u, w), has x y above 0."""
    one, two = base
    return outer(third, two) * outer(one, third) > 0


def base_of(arm, other):
    """The pair, ascending, of the ARMS of which both neighbours are the sum and the difference."""
    one, two = base_between(given_arm(arm), given_arm(other))
    return tuple(sorted([signed_arm(one), signed_arm(two)]))


def is_in_half(arm, other, third):
    """Whether third is in the half of (arm, other)."""
    arm, other, third = given_arm(arm), given_arm(other), given_arm(third)
    base = base_between(arm, other)
    check_kinds((arm, third))
    return stands_in_half(base, third)


def many_in_half(arm, other, arms):
    """How many of arms are in the half of (arm, other)."""
    arm, other, arms = given_arm(arm), given_arm(other), given_arms(arms)
    base = base_between(arm, other)
    check_kinds((arm, *arms))
    return len([own for own in arms if stands_in_half(base, own)])


def sum_of_ways(arms, arm):
    """The lengths of the WAYS from all of arms to arm, added up."""
    arms, arm = given_arms(arms), given_arm(arm)
    check_kinds((arm, *arms))
    return lengths_to(arms, arm)


def lengths_to(arms, arm):
    """The lengths of the WAYS from all of arms to arm, all of one KIND, added up."""
    return sum([steps_apart(own, arm) for own in arms])


def median(arms):
    """The median of the ARMS."""
    arms = given_arms(arms)
    if len(arms) % 2 == 0:
        raise CanNot()
    check_kinds(arms)
    return median_among(arms)


def median_among(arms):
    """The median of an odd number of ARMS of one KIND."""
    spot = arms[0]
    for goal in arms:
        # The sum of lengths falls along the way to goal as long as more than half of the ARMS part from it further on:
        # so spot comes as near to the median as this way does. Behind the last goal no ARM is left further on.
        span = steps_apart(spot, goal)
        shared = sorted([(span + steps_apart(spot, arm) - steps_apart(arm, goal)) // 2 for arm in arms])
        spot = arm_between(spot, goal, shared[len(arms) // 2])
    return spot


def halves(edge, other):
    """The halves of which each EDGE at the MIDDLE of edge crosses each one at the MIDDLE of other."""
    edge, other = given_edge(edge), given_edge(other)
    (low, high), (other_low, other_high) = edge, other
    if added(low, high) == added(other_low, other_high) or not part_each_other(edge, other):
        raise CanNot()
    arm, far = taken_off(high, low), taken_off(other_high, other_low)
    return (half_away(arm, far), half_away(far, arm))


def half_away(arm, far):
    """The half (arm, u - w): arm is u + w, far is x u + y w with x y below 0."""
    mate = mate_of(arm)
    # All such pairs are u = k arm - mate, w = arm - u. With d = arm x far, y is k d + far x mate, and x is y - d:
    # of unlike signs for the one k with which y is between 0 and d.
    many = -(outer(far, mate) // outer(arm, far))
    return (arm, signed_arm(taken_off(times(2 * many - 1, arm), times(2, mate))))
