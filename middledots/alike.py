"""Fields alike: what shears lead to what."""

from middledots.arms import told_back
from middledots.dots import added, outer, taken_off, times, told_edge
from middledots.errors import CanNot
from middledots.fields import given_field
from middledots.given import fits_pair, given, given_dot, given_edges, given_middle
from middledots.rests import least_ahead


def fits_shear(thing):
    """Whether thing is a SHEAR."""
    if not isinstance(thing, tuple) or len(thing) != 3 or not all([fits_pair(pair) for pair in thing]):
        return False
    return abs(outer(thing[0], thing[1])) == 1


def given_shear(value):
    """A SHEAR."""
    return given(value, 2, fits_shear)


def given_two_fields(field, other):
    """Two FIELDS."""
    return (given_field(field), given_field(other))


def led(shear, dot):
    """The DOT to which shear leads dot."""
    first, second, move = shear
    return added(told_back(dot, first, second), move)


def led_field(shear, field):
    """The FIELD to which shear leads field."""
    dots = tuple([led(shear, dot) for dot in field])
    # What is mirrored has the field to the right.
    return least_ahead(dots if outer(shear[0], shear[1]) == 1 else dots[::-1])


def shear_to(corners, goals):
    """The SHEAR that leads the first three of corners, not in one line, to those of goals; None if there is none."""
    one, two = taken_off(corners[1], corners[0]), taken_off(corners[2], corners[0])
    goal, goal_two = taken_off(goals[1], goals[0]), taken_off(goals[2], goals[0])
    area = outer(one, two)
    # (1, 0) and (0, 1) are so much of one and two, divided by area: so much of both goals they are led to.
    shares = [told_back(share, goal, goal_two) for share in ((two[1], -one[1]), (-two[0], one[0]))]
    first, second = [(x // area, y // area) for x, y in shares]
    shear = (first, second, taken_off(goals[0], told_back(corners[0], first, second)))
    if [times(area, first), times(area, second)] != shares or not fits_shear(shear):
        return None
    return shear


def shears_between(field, other):
    """The SHEARS, ascending, that lead field to other."""
    found = []
    for dots in (other, other[::-1]):
        for at in range(len(dots)):
            shear = shear_to(field, dots[at:] + dots[:at])
            if shear is not None and led_field(shear, field) == other:
                found.append(shear)
    return sorted(found)


def sheared_dot(shear, dot):
    """The DOT to which shear leads dot."""
    return led(given_shear(shear), given_dot(dot))


def sheared_middle(shear, middle):
    """The MIDDLE to which shear leads that of an EDGE."""
    shear, middle = given_shear(shear), given_middle(middle)
    # A MIDDLE is made of two DOTS, and both are moved.
    return added(led(shear, middle), shear[2])


def sheared_edges(shear, edges):
    """The set of the EDGES to which shear leads edges."""
    shear, edges = given_shear(shear), given_edges(edges)
    return tuple(sorted(set([told_edge(led(shear, low), led(shear, high)) for low, high in edges])))


def sheared_field(shear, field):
    """The FIELD to which shear leads field."""
    return led_field(given_shear(shear), given_field(field))


def back_shear(shear):
    """The SHEAR that leads back."""
    (a, b), (c, d), move = given_shear(shear)
    turn = a * d - b * c
    first, second = times(turn, (d, -b)), times(turn, (-c, a))
    return (first, second, told_back(times(-1, move), first, second))


def both_shears(shear, other_shear):
    """The SHEAR that leads where shear, then other_shear leads."""
    (first, second, move), other = given_shear(shear), given_shear(other_shear)
    return (told_back(first, other[0], other[1]), told_back(second, other[0], other[1]), led(other, move))


def is_shear(thing):
    """Whether thing is a SHEAR."""
    return fits_shear(thing)


def keeps_turn(shear):
    """Whether shear does not mirror."""
    first, second, _ = given_shear(shear)
    return outer(first, second) == 1


def alike(field, other):
    """A SHEAR that leads field to other."""
    field, other = given_two_fields(field, other)
    found = shears_between(field, other)
    if found == []:
        raise CanNot()
    return found[0]


def is_alike_by(field, other, thing):
    """Whether thing is a SHEAR that leads field to other."""
    field, other = given_two_fields(field, other)
    return fits_shear(thing) and led_field(thing, field) == other


def all_alike(field, other):
    """The set of all SHEARS that lead field to other."""
    field, other = given_two_fields(field, other)
    return tuple(shears_between(field, other))
