"""What callers hand in: read with tuples in the place of lists, or refused by Unfit()."""

from math import gcd

from middledots.errors import Unfit


def is_number(value):
    """Whether value is an int that is no bool."""
    return isinstance(value, int) and not isinstance(value, bool)


def tupled(value, levels):
    """value with tuples in the place of lists, so many levels down."""
    if levels == 0 or not isinstance(value, (list, tuple)):
        return value
    return tuple([tupled(part, levels - 1) for part in value])


def fits_pair(thing):
    """Whether thing is a pair of numbers; so DOTS are told, too."""
    return isinstance(thing, tuple) and len(thing) == 2 and is_number(thing[0]) and is_number(thing[1])


def fits_middle(thing):
    """Whether thing is a pair of numbers, not both even."""
    return fits_pair(thing) and (thing[0] % 2 == 1 or thing[1] % 2 == 1)


def fits_arm(thing):
    """Whether thing is an ARM."""
    # Without a common divisor (0, y) is (0, 1) or (0, -1), so comparing with (0, 0) leaves out what is no ARM.
    return fits_pair(thing) and thing > (0, 0) and gcd(thing[0], thing[1]) == 1


def fits_edge(thing):
    """Whether thing is an EDGE."""
    if not isinstance(thing, tuple) or len(thing) != 2 or not fits_pair(thing[0]) or not fits_pair(thing[1]):
        return False
    (x, y), (far_x, far_y) = thing
    return fits_arm((far_x - x, far_y - y))


def ascends(values):
    """Whether each of the values is greater than the one ahead of it."""
    return all([values[at - 1] < values[at] for at in range(1, len(values))])


def fits_edges(thing):
    """Whether thing is a set of EDGES."""
    return isinstance(thing, tuple) and all([fits_edge(own) for own in thing]) and ascends(thing)


def has_numbers_alone(thing):
    """Whether thing is a number, or a tuple of such things."""
    if isinstance(thing, tuple):
        return all([has_numbers_alone(part) for part in thing])
    return is_number(thing)


def is_like(thing, value):
    """Whether thing is value, a tuple made of numbers; True is no 1 there."""
    return thing == value and has_numbers_alone(thing)


def given(value, levels, fits):
    """value with tuples for lists, if it fits; else Unfit()."""
    own = tupled(value, levels)
    if not fits(own):
        raise Unfit()
    return own


def given_all(value, levels, fits):
    """value, a tuple, maybe (), of what fits, with tuples for lists; else Unfit()."""
    own = tupled(value, levels + 1)
    if not isinstance(own, tuple) or not all([fits(part) for part in own]):
        raise Unfit()
    return own


def given_pair(value):
    """A pair of numbers."""
    return given(value, 1, fits_pair)


def given_dot(value):
    """A DOT."""
    return given(value, 1, fits_pair)


def given_middle(value):
    """A MIDDLE, of whatever EDGE."""
    return given(value, 1, fits_middle)


def given_arm(value):
    """An ARM."""
    return given(value, 1, fits_arm)


def given_edge(value):
    """An EDGE."""
    return given(value, 2, fits_edge)


def given_dots(value):
    """A tuple, maybe (), of DOTS."""
    return given_all(value, 1, fits_pair)


def given_edges(value):
    """A tuple, maybe (), of EDGES."""
    return given_all(value, 2, fits_edge)


def given_arms(value):
    """A tuple, not (), of ARMS."""
    arms = given_all(value, 1, fits_arm)
    if arms == ():
        raise Unfit()
    return arms


def given_count(value):
    """A number from 0."""
    if not is_number(value) or value < 0:
        raise Unfit()
    return value
