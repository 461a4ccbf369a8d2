"""What the tests share: values of every kind, wrong ones, fields that they make, and ways of reckoning of their own."""

import random
from fractions import Fraction
from math import gcd

SECTIONS = {
    "section_03": "signs",
    "section_04": "dots",
    "section_05": "fields",
    "section_06": "arms",
    "section_07": "halves",
    "section_08": "edges",
    "section_09": "cuts",
    "section_10": "allcuts",
    "section_11": "counting",
    "section_12": "turns",
    "section_13": "fewest",
    "section_14": "middles",
    "section_15": "nearest",
    "section_16": "texts",
    "section_17": "held",
    "section_18": "strips",
    "section_19": "least",
    "section_20": "alike",
    "section_21": "sure",
    "section_22": "judge",
    "section_23": "joins",
    "section_24": "desk",
}


# Values, told with what they are, so that True is not 1 and a list no tuple.

def told(value):
    """value with the names of its classes, all the way down."""
    if isinstance(value, (list, tuple)):
        return (type(value).__name__, [told(part) for part in value])
    return (type(value).__name__, value)


def outcome(function, *args, **names):
    """What the call tells: its value, or its error with what the error keeps."""
    try:
        return ("value", told(function(*args, **names)))
    except Exception as error:
        return ("error", type(error).__name__, {name: told(kept) for name, kept in vars(error).items()})


def listed(value, mask):
    """value with lists for tuples at those depths whose bit mask has."""
    if not isinstance(value, (list, tuple)):
        return value
    parts = [listed(part, mask >> 1) for part in value]
    return parts if mask & 1 else tuple(parts)


# Wrong values.

def deep_list(levels):
    nest = []
    for _ in range(levels):
        nest = [nest]
    return nest


def looped_list():
    loop = []
    loop.append(loop)
    return loop


WRONG = [None, True, False, 1.5, "", "ab", "1", b"12", {}, {1: 2}, {1, 2}, object(), int, deep_list(3), deep_list(5000),
         looped_list(), ((),), ((((),),),), (None,), ("a", "b")]
WRONG_PAIRS = WRONG + [7, 0, -1, (), [], (1,), (1, 2, 3), [1, 2, 3], (True, 0), (0, False), (1, True), (1.0, 2), ("1", 2),
                       (1, None), ((0, 0), (1, 1)), [[0, 1]], (1, (2,))]
WRONG_ARMS = WRONG_PAIRS + [(-1, 0), (0, -1), (0, 0), (2, 0), (0, 2), (-1, 2), (2, 4), (3, -9), (-3, 1)]
WRONG_MIDDLES = WRONG_PAIRS + [(0, 0), (2, 4), (-2, 6), [2, 2]]
WRONG_EDGES = WRONG_PAIRS[:-3] + [(0, 1), ((1, 0), (0, 0)), ((0, 0), (0, 0)), ((0, 0), (2, 2)), ((0, 0), (0, -1)), ((0, 0),),
                                  ((0, 0), (1, 0), (2, 0)), ((0, 0), (True, 0)), ((0, 0), (1, 0.0)), ((0, 0), None),
                                  ((0, 0), (1,)), ((0, 0), (1, 0, 0)), ((2, 1), (0, 0)), [[0, 0], [3, 0]], (5, (1, 0)),
                                  (None, (1, 0)), (("0", 0), (1, 0)), ((False, 0), (1, 0)), ((0,), (1, 0)), ((0.0, 0), (1, 0))]
WRONG_COUNTS = WRONG + [-1, -10 ** 20, (), [], (1,), 2.0]
WRONG_FIELDS = WRONG_PAIRS + [((0, 0), (1, 0)), ((0, 0), (1, 0), (2, 0)), ((0, 0), (0, 1), (1, 0)), ((1, 0), (0, 1), (0, 0)),
                              ((0, 0), (1, 0), (2, 0), (0, 1)), ((0, 0), (2, 0), (0, 2), (2, 2)),
                              ((0, 0), (1, 0), (1, 0), (0, 1)), ((0, 0), (True, 0), (0, 1)), ((0, 0), (1, 0), None),
                              ((0, 0), (3, 0), (3, 3), (1, 0), (0, 3)), ((0, 0), (2, 0), (1, 0), (0, 1))]


def in_tuples(wrong, good):
    """What is no tuple of values of a kind: wrong ones alone, behind and ahead of a good one."""
    outer = [None, True, 7, 1.5, "ab", b"ab", {}, {1: 2}, {(0, 1)}, object(), looped_list(), good]
    return outer + [(part,) for part in wrong] + [(good, part) for part in wrong] + [[part, good] for part in wrong]


ELL = ((0, 0), (2, 0), (2, 1), (1, 1), (1, 2), (0, 2))


# Ways of reckoning of the tests' own.

def own_meeting(a, b, c, d):
    """Where the straight ways a-b and c-d meet, ends with them: None, the point (x, y), or "line" if in many points."""
    rx, ry, sx, sy = b[0] - a[0], b[1] - a[1], d[0] - c[0], d[1] - c[1]
    det = rx * sy - ry * sx
    qx, qy = c[0] - a[0], c[1] - a[1]
    if det != 0:
        t, u = Fraction(qx * sy - qy * sx, det), Fraction(qx * ry - qy * rx, det)
        return (a[0] + t * rx, a[1] + t * ry) if 0 <= t <= 1 and 0 <= u <= 1 else None
    if qx * ry != qy * rx:
        return None
    long = rx * rx + ry * ry
    t, u = sorted([Fraction(qx * rx + qy * ry, long), Fraction((qx + sx) * rx + (qy + sy) * ry, long)])
    low, high = max(t, 0), min(u, 1)
    if low > high:
        return None
    return (a[0] + low * rx, a[1] + low * ry) if low == high else "line"


def own_simple(dots):
    """Whether the way round these unlike dots nowhere crosses or touches itself, straight on let."""
    many = len(dots)
    if many < 3 or len(set(dots)) < many:
        return False
    sides = [(dots[at], dots[(at + 1) % many]) for at in range(many)]
    for at in range(many):
        for other in range(at):
            meeting = own_meeting(*sides[at], *sides[other])
            common = set(sides[at]) & set(sides[other])
            if meeting == "line" or len(common) > 1 or meeting != (common.pop() if common else None):
                return False
    return True


def own_area(dots):
    """The doubled area, by trapezoids."""
    return sum((dots[at][0] + dots[at - 1][0]) * (dots[at][1] - dots[at - 1][1]) for at in range(len(dots)))


def own_field(dots):
    """The FIELD round which dots stand; None if there is none."""
    if not own_simple(dots):
        return None
    many = len(dots)
    corners = [dots[at] for at in range(many)
               if own_area((dots[at - 1], dots[at], dots[(at + 1) % many])) != 0]
    if own_area(corners) < 0:
        corners.reverse()
    while corners[0] != min(corners):
        corners.append(corners.pop(0))
    return tuple(corners)


def own_place(field, point):
    """Where a point, of fractions maybe, lies: by the sides that a level ray to the right meets."""
    x, y = point
    odd = False
    for at in range(len(field)):
        (ax, ay), (bx, by) = field[at - 1], field[at]
        on = (bx - ax) * (y - ay) == (by - ay) * (x - ax)
        if on and min(ax, bx) <= x <= max(ax, bx) and min(ay, by) <= y <= max(ay, by):
            return "rim"
        if (ay > y) != (by > y) and x < ax + Fraction((y - ay) * (bx - ax), by - ay):
            odd = not odd
    return "inner" if odd else "out"


def own_dots(field, place):
    """The dots of the box of field that lie there, ascending."""
    return tuple(sorted(point for point in own_box(field) if own_place(field, point) == place))


def own_box(field):
    xs, ys = [x for x, _ in field], [y for _, y in field]
    return [(x, y) for x in range(min(xs), max(xs) + 1) for y in range(min(ys), max(ys) + 1)]


def own_middles(field):
    """The MIDDLES of field, ascending."""
    twice = [(2 * x, 2 * y) for x, y in field]
    return tuple(sorted((x, y) for x, y in own_box(twice) if (x % 2, y % 2) != (0, 0)
                        and own_place(field, (Fraction(x, 2), Fraction(y, 2))) == "inner"))


def own_cross(edge, other):
    """Whether unlike EDGES have a point strictly between the ends of both: where both lines meet."""
    if edge == other:
        return False
    meeting = own_meeting(*edge, *other)
    return meeting == "line" or meeting is not None and meeting not in edge and meeting not in other


def own_lies_in(field, edge):
    """Whether no point of edge is out: it is parted where sides meet it, then each part is asked half way."""
    (ax, ay), (bx, by) = edge
    stops = {Fraction(0), Fraction(1)}
    for at in range(len(field)):
        meeting = own_meeting(*edge, field[at - 1], field[at])
        if meeting == "line":
            stops.update(own_share(edge, corner) for corner in (field[at - 1], field[at]))
        elif meeting is not None:
            stops.add(own_share(edge, meeting))
    stops = sorted(stop for stop in stops if 0 <= stop <= 1)
    asked = stops + [(stops[at] + stops[at + 1]) / 2 for at in range(len(stops) - 1)]
    return all(own_place(field, (ax + t * (bx - ax), ay + t * (by - ay))) != "out" for t in asked)


def own_share(edge, point):
    """At which share of the way from its first to its second DOT the point stands."""
    (ax, ay), (bx, by) = edge
    return Fraction(point[0] - ax, bx - ax) if bx != ax else Fraction(point[1] - ay, by - ay)


def own_rim_edges(field):
    """The rim EDGES, from rim dot to rim dot along the sides."""
    edges = []
    for at in range(len(field)):
        (ax, ay), (bx, by) = field[at - 1], field[at]
        many = gcd(bx - ax, by - ay)
        stops = [(ax + (bx - ax) * k // many, ay + (by - ay) * k // many) for k in range(many + 1)]
        edges += [tuple(sorted(stops[k:k + 2])) for k in range(many)]
    return tuple(sorted(edges))


def own_edges_in(field):
    """All EDGES that lie in field but are no rim EDGES, ascending."""
    dots = sorted(own_dots(field, "inner") + own_dots(field, "rim"))
    rim = set(own_rim_edges(field))
    pairs = [(a, b) for a in dots for b in dots if a < b and gcd(b[0] - a[0], b[1] - a[1]) == 1]
    return tuple(pair for pair in pairs if pair not in rim and own_lies_in(field, pair))


def own_arm(pair):
    """The one of pair and its contrary that is told as an ARM."""
    x, y = pair
    return (x, y) if x > 0 or x == 0 and y > 0 else (-x, -y)


def own_arms(most):
    """All ARMS with numbers by size at most most, by their KINDS."""
    found = {(1, 0): [], (0, 1): [], (1, 1): []}
    for x in range(most + 1):
        for y in range(-most, most + 1):
            if gcd(x, y) == 1 and own_arm((x, y)) == (x, y):
                found[x % 2, y % 2].append((x, y))
    return found


def own_neighbours(arm, most):
    """The neighbours of arm with numbers by size at most most, by the words of [3]."""
    x, y = arm
    reach = (max(abs(x), abs(y)) + most) // 2 + 1
    found = set()
    for ux in range(-reach, reach + 1):
        for uy in range(-reach, reach + 1):
            wx, wy = x - ux, y - uy
            if ux * wy - uy * wx in (1, -1):
                dx, dy = own_arm((ux - wx, uy - wy))
                if max(abs(dx), abs(dy)) <= most:
                    found.add((dx, dy))
    return sorted(found)


def next_arm(arm, far, shift):
    """Another neighbour of arm than far, an even multiple of arm off."""
    return own_arm((far[0] + 2 * shift * arm[0], far[1] + 2 * shift * arm[1]))


def square(arm):
    return arm[0] ** 2 + arm[1] ** 2


def own_elders(arm):
    """arm, its elder, the elder of that, .. down to the root."""
    found = [arm]
    while square(found[-1]) > 2:
        x, y = found[-1]
        shorter = [own for own in own_neighbours((x, y), max(abs(x), abs(y))) if square(own) < square((x, y))]
        assert len(shorter) == 1
        found += shorter
    return found + [(1, 1)] if found[-1] == (1, -1) else found


def own_way(arm, other, known={}):
    """The WAY, through elders down to where both meet."""
    for own in (arm, other):
        if own not in known:
            known[own] = own_elders(own)
    down, up = list(known[arm]), list(known[other])
    while len(down) > 1 and len(up) > 1 and down[-2] == up[-2]:
        down.pop()
        up.pop()
    assert down[-1] == up[-1]
    return tuple(down + up[-2::-1])


def own_length(arm, other):
    return len(own_way(arm, other)) - 1


# Fields, arms and shears that the tests make.

def random_shear(dice, steps):
    """Two pairs of numbers (first, second) with first x second 1 or -1, small ones."""
    first, second = (1, 0), (0, 1)
    for _ in range(steps):
        k = dice.randint(-1, 1)
        if dice.random() < 0.5:
            first = (first[0] + k * second[0], first[1] + k * second[1])
        else:
            second = (second[0] + k * first[0], second[1] + k * first[1])
    return (second, first) if dice.random() < 0.5 else (first, second)


def sheared(point, first, second, move=(0, 0)):
    x, y = point
    return (x * first[0] + y * second[0] + move[0], x * first[1] + y * second[1] + move[1])


def random_round(dice, many, size):
    """So many dots, round a point among them, as one sees them from there: often the corners of a field with dents."""
    dots = {(dice.randint(0, size), dice.randint(0, size)) for _ in range(many)}
    center = (Fraction(2 * size + 1, 4), Fraction(3 * size + 1, 7))

    def seen(dot):
        x, y = dot[0] - center[0], dot[1] - center[1]
        upper = y > 0 or y == 0 and x > 0
        return (not upper, -x / y if y != 0 else Fraction(-10 ** 6 if upper else -10 ** 6), dot)

    return sorted(dots, key=seen)


def made_fields(seed, many, size=4, most_dots=40):
    """So many unlike FIELDS: blocks, slanted and thin ones, ones with dents, some far from (0, 0)."""
    dice = random.Random(seed)
    found = {((0, 0), (1, 0), (0, 1)): True, ((0, 0), (2, 0), (2, 2), (0, 2)): True, ELL: True,
             ((0, 0), (30, 29), (31, 30)): True, ((0, 0), (2, 1), (4, 0), (2, 3)): True,
             ((-7, 5), (-5, 5), (-5, 6), (-7, 6)): True, ((0, 0), (5, 2), (2, 1)): True,
             ((999990, -999999), (999999, -999998), (999991, -999997)): True}
    while len(found) < many:
        dots = random_round(dice, dice.randint(3, 9), dice.randint(2, size))
        first, second = random_shear(dice, dice.randint(0, 4))
        move = dice.choice([(0, 0), (-3, 8), (10 ** 5, -10 ** 5), (-2, -2)])
        field = own_field(tuple(sheared(dot, first, second, move) for dot in dots))
        if field is not None and len(own_dots(field, "inner") + own_dots(field, "rim")) <= most_dots:
            found[field] = True
    return list(found)


def random_arm(dice, most):
    """An ARM with numbers by size at most most."""
    while True:
        x, y = dice.randint(-most, most), dice.randint(-most, most)
        if gcd(x, y) == 1:
            return own_arm((x, y))


def random_edge(dice, size, reach):
    """An EDGE from a dot in a box, its ARM with numbers by size at most reach."""
    x, y = dice.randint(-size, size), dice.randint(-size, size)
    dx, dy = random_arm(dice, reach)
    return ((x, y), (x + dx, y + dy))
