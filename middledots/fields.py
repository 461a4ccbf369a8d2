"""Fields: regions with corners on dots, what lies in them and how much."""

from middledots.dots import added, area_round, dots_on, edges_on, outer, steps_between, taken_off, times, turn_at
from middledots.errors import CanNot
from middledots.given import fits_middle, fits_pair, given, given_dot, given_dots, given_middle


def given_field(value):
    """A FIELD."""
    return given(value, 2, is_field)


def is_field(thing):
    """Whether thing is a FIELD."""
    if not isinstance(thing, tuple) or len(thing) < 3 or not all([fits_pair(own) for own in thing]):
        return False
    if thing[0] != min(thing) or len(set(thing)) < len(thing) or area_round(thing) <= 0:
        return False
    turns = [turn_at(thing[at - 2], thing[at - 1], thing[at]) for at in range(len(thing))]
    return 0 not in turns and not meets_itself(thing)


def sides_of(corners):
    """The sides, each from a corner to the next one; that at place k ends in corner k."""
    return [(corners[at - 1], corners[at]) for at in range(len(corners))]


def meets_itself(corners):
    """Whether two sides meet that are not next to one another."""
    sides = sides_of(corners)
    near = []
    for span, at in sorted([(span_of(side), at) for at, side in enumerate(sides)]):
        # A side that ends to the left of this one's beginning can meet no later one either.
        near = [own for own in near if own[0][1] >= span[0]]
        for other, place in near:
            apart = other[3] < span[2] or span[3] < other[2] or (at - place) % len(sides) in (1, len(sides) - 1)
            if not apart and do_meet(sides[at], sides[place]):
                return True
        near.append((span, at))
    return False


def span_of(side):
    """From where to where side reaches: (least x, greatest x, least y, greatest y)."""
    (x, y), (far_x, far_y) = side
    return (min(x, far_x), max(x, far_x), min(y, far_y), max(y, far_y))


def do_meet(side, other):
    """Whether two sides have a point in common, if their spans have one."""
    (a, b), (c, d) = side, other
    return turn_at(a, b, c) * turn_at(a, b, d) <= 0 and turn_at(c, d, a) * turn_at(c, d, b) <= 0


def field_of(dots):
    """The FIELD round which the DOTS stand, whichever way round, begun anywhere."""
    dots = given_dots(dots)
    if len(set(dots)) < max(3, len(dots)):
        raise CanNot()
    corners = corners_among(dots)
    if area_round(corners) < 0:
        corners = corners[::-1]
    least = corners.index(min(corners))
    field = tuple(corners[least:] + corners[:least])
    if not is_field(field):
        raise CanNot()
    return field


def corners_among(dots):
    """The list of the DOTS of a way round at which it does not go straight on."""
    corners = []
    for at in range(len(dots)):
        before, behind = taken_off(dots[at - 1], dots[at - 2]), taken_off(dots[at], dots[at - 1])
        onward = before[0] * behind[0] + before[1] * behind[1] > 0
        if outer(before, behind) != 0 or not onward:
            corners.append(dots[at - 1])
    return corners


def place_among(corners, point):
    """Where point lies: "inner", "rim" or "out"."""
    x, y = point
    within = False
    for start, end in sides_of(corners):
        turn = turn_at(start, end, point)
        left, right, lower, upper = span_of((start, end))
        if turn == 0 and left <= x <= right and lower <= y <= upper:
            return "rim"
        # A side without its right end: so of two that meet below the point neither is missed or taken twice.
        if left <= x < right and (turn > 0) == (start < end):
            within = not within
    return "inner" if within else "out"


def doubled(field):
    """The corners, told in half points."""
    return [times(2, corner) for corner in field]


def half_place_among(field, middle):
    """Where the half point of middle lies."""
    return place_among(doubled(field), middle)


def dots_round(field):
    """The rim dots, one after another with field to the left, the least one first."""
    sides = sides_of(field)
    return [dot for start, end in sides[1:] + sides[:1] for dot in dots_on(start, end)[:-1]]


def rim_round(field):
    """The rim EDGES, side by side."""
    return [own for start, end in sides_of(field) for own in edges_on(start, end)]


def points_above_sides(corners):
    """The points, ascending, with oddly many sides below: those strictly within, and some on the rim."""
    columns = {}
    for side in sides_of(corners):
        (x, y), (far_x, far_y) = sorted(side)
        for column in range(x, far_x):
            first = y + (column - x) * (far_y - y) // (far_x - x) + 1
            columns.setdefault(column, []).append(first)
    found = []
    for column in sorted(columns):
        firsts = sorted(columns[column])
        for at in range(0, len(firsts), 2):
            found.extend([(column, y) for y in range(firsts[at], firsts[at + 1])])
    return found


def dots_on_rim(field):
    """The rim dots, ascending."""
    return sorted(set([dot for own in rim_round(field) for dot in own]))


def dots_within(field):
    """The inner dots, ascending."""
    rim = {dot: True for dot in dots_on_rim(field)}
    return [dot for dot in points_above_sides(field) if dot not in rim]


def dots_of(field):
    """The rim dots and the inner dots, ascending."""
    return sorted(dots_on_rim(field) + dots_within(field))


def middles_within(field):
    """The MIDDLES of field, ascending."""
    rim = {added(low, high): True for low, high in rim_round(field)}
    return [middle for middle in points_above_sides(doubled(field)) if fits_middle(middle) and middle not in rim]


def numbers_of(field):
    """The doubled area, and how many inner dots, rim dots and MIDDLES there are."""
    area = area_round(field)
    rim = sum([steps_between(start, end) for start, end in sides_of(field)])
    # By the guarantees of [6] these two tell the others.
    return (area, (area - rim + 2) // 2, rim, (3 * area - rim) // 2)


def place_of(field, dot):
    """Where dot lies: "inner", "rim" or "out"."""
    return place_among(given_field(field), given_dot(dot))


def half_place_of(field, middle):
    """Where the half point of middle lies: "inner", "rim" or "out"."""
    return half_place_among(given_field(field), given_middle(middle))


def inner_dots(field):
    """The set of the inner dots."""
    return tuple(dots_within(given_field(field)))


def rim_dots(field):
    """The set of the rim dots."""
    return tuple(dots_on_rim(given_field(field)))


def all_dots(field):
    """The set of the inner dots and the rim dots."""
    return tuple(dots_of(given_field(field)))


def rim_edges(field):
    """The set of the rim EDGES."""
    return tuple(sorted(rim_round(given_field(field))))


def middles(field):
    """The set of the MIDDLES of field."""
    return tuple(middles_within(given_field(field)))


def numbers(field):
    """The quadruple of the doubled area, and of how many inner dots, rim dots and MIDDLES there are."""
    return numbers_of(given_field(field))
