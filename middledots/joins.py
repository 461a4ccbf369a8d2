"""Fields parted by a path, and put together along one."""

from middledots.dots import added, told_edge
from middledots.edges import edges_among, first_pair, lies_among
from middledots.errors import CanNot
from middledots.fields import dots_on_rim, dots_round, dots_within, field_of, given_field, middles_within, rim_round
from middledots.given import fits_pair, given
from middledots.nets import given_cut, ways_round


def edges_along(dots):
    """The EDGES, from DOT to DOT along a PATH."""
    return [told_edge(dots[at - 1], dots[at]) for at in range(1, len(dots))]


def fits_path(field, thing):
    """Whether thing is a PATH of field."""
    if not isinstance(thing, tuple) or len(thing) < 2 or not all([fits_pair(dot) for dot in thing]):
        return False
    rim, within = dots_on_rim(field), dots_within(field)
    if len(set(thing)) < len(thing) or thing[0] not in rim or thing[-1] not in rim:
        return False
    if not all([dot in within for dot in thing[1:-1]]):
        return False
    edges, sides = edges_along(thing), rim_round(field)
    if not all([edge not in sides and lies_among(field, edge) for edge in edges]):
        return False
    return first_pair(edges) is None


def given_path(field, value):
    """A PATH of field."""
    return given(value, 2, lambda own: fits_path(field, own))


def from_to(dots, start, end):
    """Those of the DOTS of a way round that come from start on, ahead of end."""
    place = dots.index(start)
    round_on = dots[place:] + dots[:place]
    return round_on[:round_on.index(end)]


def parts_of(field, dots):
    """The pair of the FIELDS left and right of a PATH."""
    rim = dots_round(field)
    first, last = dots[0], dots[-1]
    left = list(dots[:-1]) + from_to(rim, last, first)
    right = list(dots[:0:-1]) + from_to(rim, first, last)
    return (field_of(left), field_of(right))


def path_between(field, other):
    """The tuple of the DOTS along which other lies to the right of field; CanNot() if there is no one such way."""
    back = {(end, start): True for start, end in ways_round(other)}
    ways = ways_round(field)
    shared = [way in back for way in ways]
    starts = [at for at in range(len(ways)) if shared[at] and not shared[at - 1]]
    if len(starts) != 1:
        raise CanNot()
    round_on = ways[starts[0]:] + ways[:starts[0]]
    return tuple([round_on[0][0]] + [end for start, end in round_on if (start, end) in back])


def whole_of(field, other):
    """The pair (whole, dots): the FIELD that the PATH dots parts into field and other; CanNot() if there is none."""
    dots = path_between(field, other)
    first, last = dots[0], dots[-1]
    # If these DOTS stand round a FIELD, both ways round but for the PATH meet nowhere else: so it goes through within.
    rim = from_to(dots_round(field), last, first) + from_to(dots_round(other), first, last)
    return (field_of(rim), dots)


def is_path(field, thing):
    """Whether thing is a PATH of field."""
    return fits_path(given_field(field), thing)


def short_paths(field):
    """The set of all PATHS of two DOTS, the lesser one first."""
    field = given_field(field)
    rim = {dot: True for dot in dots_on_rim(field)}
    return tuple([(low, high) for low, high in edges_among(field) if low in rim and high in rim])


def parted(field, dots):
    """The pair of the FIELDS left and right of a PATH."""
    field = given_field(field)
    return parts_of(field, given_path(field, dots))


def cut_parted(field, dots, cut):
    """The pair of the CUTS of both parts whose EDGES cut has."""
    field = given_field(field)
    cut = given_cut(field, cut)
    dots = given_path(field, dots)
    if not all([edge in cut for edge in edges_along(dots)]):
        raise CanNot()
    parts = [{middle: True for middle in middles_within(part)} for part in parts_of(field, dots)]
    left, right = [tuple([(low, high) for low, high in cut if added(low, high) in part]) for part in parts]
    return (left, right)


def put_together(field, other):
    """The pair (whole, dots) such that the PATH dots parts whole into field and other."""
    return whole_of(given_field(field), given_field(other))


def cuts_together(field, cut, other, far):
    """The CUT of that whole with the EDGES of cut, of far, and of that PATH."""
    field = given_field(field)
    cut = given_cut(field, cut)
    other = given_field(other)
    far = given_cut(other, far)
    _, dots = whole_of(field, other)
    return tuple(sorted(list(cut) + list(far) + edges_along(dots)))
