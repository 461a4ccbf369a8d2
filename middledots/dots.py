"""Dots and the edges between them."""

from math import gcd

from middledots.errors import CanNot, TooMany
from middledots.given import fits_arm, fits_edge, fits_middle, fits_pair
from middledots.given import given_arm, given_dot, given_dots, given_edge, given_middle

MOST_EDGES_BETWEEN = 2000


def outer(one, two):
    """one x two of [3]: above 0 if two points to the left of one."""
    return one[0] * two[1] - one[1] * two[0]


def added(one, two):
    """Both pairs, added up."""
    return (one[0] + two[0], one[1] + two[1])


def taken_off(one, two):
    """The pair one less two."""
    return (one[0] - two[0], one[1] - two[1])


def times(number, pair):
    """number times pair."""
    return (number * pair[0], number * pair[1])


def signed_arm(pair):
    """The one of pair and its contrary that can be an ARM."""
    return pair if pair > (0, 0) else times(-1, pair)


def parities(pair):
    """Both numbers of pair modulo 2."""
    return (pair[0] % 2, pair[1] % 2)


def turn_at(dot, far, third):
    """Above 0 if third lies to the left of the way from dot to far, below 0 if to the right, 0 if in line."""
    return (far[0] - dot[0]) * (third[1] - dot[1]) - (far[1] - dot[1]) * (third[0] - dot[0])


def part_each_other(way, other):
    """Whether each of both straight ways, pairs of DOTS, has the ends of the other one strictly on both sides."""
    # Written out, without turn_at: nothing else is asked as often.
    ((ax, ay), (bx, by)), ((cx, cy), (dx, dy)) = way, other
    x, y = bx - ax, by - ay
    if (x * (cy - ay) - y * (cx - ax)) * (x * (dy - ay) - y * (dx - ax)) >= 0:
        return False
    x, y = dx - cx, dy - cy
    return (x * (ay - cy) - y * (ax - cx)) * (x * (by - cy) - y * (bx - cx)) < 0


def area_round(dots):
    """The doubled area of the way round the DOTS."""
    return sum([outer(dots[at - 1], dots[at]) for at in range(len(dots))])


def steps_between(dot, other):
    """How many EDGES lie on the straight way from dot to other."""
    return gcd(other[0] - dot[0], other[1] - dot[1])


def dots_on(dot, other):
    """The DOTS on this way, both ends with them, one after another from dot on."""
    many = steps_between(dot, other)
    if many == 0:
        return [dot]
    far_x, far_y = taken_off(other, dot)
    step = (far_x // many, far_y // many)
    return [added(dot, times(number, step)) for number in range(many + 1)]


def edges_on(dot, other):
    """The EDGES on this way, one after another from dot on."""
    stops = dots_on(dot, other)
    return [told_edge(stops[at], stops[at + 1]) for at in range(len(stops) - 1)]


def told_edge(dot, other):
    """Both ends, the lesser one first."""
    return (dot, other) if dot < other else (other, dot)


def edge_with(middle, arm):
    """The EDGE with this MIDDLE and this ARM of its KIND."""
    twice_x, twice_y = taken_off(middle, arm)
    low = (twice_x // 2, twice_y // 2)
    return (low, added(low, arm))


def arm_from(edge):
    """The ARM of edge."""
    low, high = edge
    return taken_off(high, low)


def square_along(edge):
    """The square of the length of edge."""
    x, y = arm_from(edge)
    return x * x + y * y


def is_dot(thing):
    """Whether thing is a DOT."""
    return fits_pair(thing)


def is_arm(thing):
    """Whether thing is an ARM."""
    return fits_arm(thing)


def is_edge(thing):
    """Whether thing is an EDGE."""
    return fits_edge(thing)


def can_be_middle(thing):
    """Whether thing is a MIDDLE, of whatever EDGE."""
    return fits_middle(thing)


def edge(dot, other):
    """The EDGE with these two ends."""
    dot, other = given_dot(dot), given_dot(other)
    if steps_between(dot, other) != 1:
        raise CanNot()
    return told_edge(dot, other)


def middle_of(edge):
    """The MIDDLE of edge."""
    low, high = given_edge(edge)
    return added(low, high)


def arm_of(edge):
    """The ARM of edge."""
    return arm_from(given_edge(edge))


def kind_of(middle):
    """The KIND of middle, or of an ARM."""
    return parities(given_middle(middle))


def square_of(arm):
    """The square of the length of arm."""
    x, y = given_arm(arm)
    return x * x + y * y


def edge_at(middle, arm):
    """The EDGE with this MIDDLE and this ARM."""
    middle, arm = given_middle(middle), given_arm(arm)
    if parities(middle) != parities(arm):
        raise CanNot()
    return edge_with(middle, arm)


def cross(edge, other):
    """Whether the EDGES are unlike and cross."""
    edge, other = given_edge(edge), given_edge(other)
    # No DOT lies within an EDGE, so unlike ones in one line have no point within both.
    return part_each_other(edge, other)


def side_of(edge, dot):
    """1 if dot lies to the left of the line of edge, -1 if to the right, 0 if on it."""
    low, high = given_edge(edge)
    turn = turn_at(low, high, given_dot(dot))
    return (turn > 0) - (turn < 0)


def area_of(dots):
    """The doubled area of the way round from DOT to DOT."""
    return area_round(given_dots(dots))


def edges_between(dot, other):
    """The list of the EDGES on the straight way from dot to other."""
    dot, other = given_dot(dot), given_dot(other)
    if steps_between(dot, other) > MOST_EDGES_BETWEEN:
        raise TooMany()
    return edges_on(dot, other)
