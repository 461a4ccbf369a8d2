"""Ways of reckoning about CUTS of the tests' own: all of them by a search, triangles by going round them, TURNS, ways."""

from collections import deque
from functools import cmp_to_key, lru_cache
from itertools import combinations

from tests.helpers import made_fields, own_area, own_cross, own_dots, own_edges_in, own_field, own_rim_edges, random_shear, sheared


def middle(edge):
    (ax, ay), (bx, by) = edge
    return (ax + bx, ay + by)


def arm(edge):
    (ax, ay), (bx, by) = edge
    return (bx - ax, by - ay)


@lru_cache(maxsize=None)
def own_rim(field):
    return frozenset(own_rim_edges(field))


@lru_cache(maxsize=None)
def own_all_dots(field):
    return tuple(sorted(own_dots(field, "inner") + own_dots(field, "rim")))


@lru_cache(maxsize=None)
def own_lots(field):
    """For each MIDDLE, ascending, the EDGES there, ascending."""
    lots = {}
    for edge in own_edges_in(field):
        lots.setdefault(middle(edge), []).append(edge)
    return {spot: tuple(lots[spot]) for spot in sorted(lots)}


@lru_cache(maxsize=None)
def own_crossed(field):
    """For each EDGE that lies in field, rim EDGES too, those that cross it."""
    edges = [edge for lot in own_lots(field).values() for edge in lot]
    crossed = {edge: set() for edge in edges + list(own_rim(field))}
    for edge, other in combinations(edges, 2):
        if own_cross(edge, other):
            crossed[edge].add(other)
            crossed[other].add(edge)
    return {edge: frozenset(crossed[edge]) for edge in crossed}


def own_free(field, edges):
    """For each MIDDLE, ascending, the EDGES there that cross none of edges."""
    crossed = own_crossed(field)
    barred = set().union(*[crossed[edge] for edge in edges])
    return {spot: [edge for edge in lot if edge not in barred] for spot, lot in own_lots(field).items()}


def own_search(field, lots, most):
    """All CUTS with an EDGE of each of these lots, ascending; None if they are more than most."""
    crossed, found = own_crossed(field), []

    def choose(at, chosen, barred):
        if at == len(lots):
            found.append(tuple(sorted(chosen)))
        elif len(found) <= most:
            for edge in lots[at]:
                if edge not in barred:
                    choose(at + 1, chosen + [edge], barred | crossed[edge])

    choose(0, [], frozenset())
    return sorted(found) if len(found) <= most else None


@lru_cache(maxsize=None)
def own_cuts(field, most=10 ** 9):
    """All CUTS of field, ascending; None if they are more than most."""
    return own_search(field, list(own_lots(field).values()), most)


def own_completed(field, edges=()):
    """The CUT with edges: MIDDLE by MIDDLE, where none of them is, the least EDGE that crosses none that is there."""
    there = {middle(edge): edge for edge in edges if edge not in own_rim(field)}
    for spot, lot in own_lots(field).items():
        if spot not in there:
            there[spot] = next(edge for edge in lot if not any(own_cross(edge, other) for other in there.values()))
    return tuple(sorted(there.values()))


def own_with(field, edges):
    """Those CUTS that have all of edges, rim EDGES apart."""
    wanted = set(edges) - own_rim(field)
    return [cut for cut in own_cuts(field) if wanted <= set(cut)]


@lru_cache(maxsize=None)
def small_fields(seed, many, most_cuts, most_dots=14):
    """FIELDS that the tests make, of each of which a search finds all CUTS: blocks, strips, slanted ones, dents .."""
    named = [((0, 0), (3, 0), (3, 1), (0, 1)), ((0, 0), (3, 0), (2, 1), (0, 1)), ((0, 0), (3, 0), (0, 3)),
             ((0, 0), (2, 0), (2, 1), (1, 1), (0, 2)), ((0, 0), (5, 0), (5, 1), (0, 1)), ((0, 0), (4, 0), (4, 2), (0, 2)),
             ((0, 3), (2, 3), (4, 4), (2, 4)), ((0, 0), (3, 1), (4, 4), (1, 3)), ((0, 0), (7, 3), (5, 2)), ((0, 0), (1, -2), (3, 1)),
             ((0, 0), (3, 0), (3, 2), (0, 2))]
    found, stiff = [], 0
    for field in [own_field(dots) for dots in named] + made_fields(seed, 40 * many, 4, most_dots):
        if len(found) == many:
            return found
        cuts = own_cuts(field, most_cuts)
        stiff += cuts is not None and len(cuts) == 1
        # Not many of those that have one CUT alone.
        if cuts is not None and (len(cuts) > 1 or stiff < 5):
            found.append(field)
    raise AssertionError("too few fields")


def drawn_shear(dice):
    first, second = random_shear(dice, dice.randint(1, 4))
    return (first, second, (dice.randint(-9, 9), dice.randint(-9, 9)))


def sheared_field(field, shear):
    return own_field(tuple(sheared(dot, *shear) for dot in field))


def sheared_edges(edges, shear):
    return tuple(sorted(tuple(sorted(sheared(dot, *shear) for dot in edge)) for edge in edges))


def by_angle(dots, center):
    """The dots as one sees them, turning to the left, from the center."""
    def half(way):
        return way[1] < 0 or way[1] == 0 and way[0] < 0

    def compare(one, two):
        if half(one) != half(two):
            return half(one) - half(two)
        return two[0] * one[1] - two[1] * one[0]

    ways = [(x - center[0], y - center[1]) for x, y in dots]
    return [(center[0] + x, center[1] + y) for x, y in sorted(ways, key=cmp_to_key(compare))]


def own_faces(edges):
    """The parts that these EDGES bound, each once gone round with it to the left."""
    near = {}
    for low, high in edges:
        near.setdefault(low, set()).add(high)
        near.setdefault(high, set()).add(low)
    near = {dot: by_angle(near[dot], dot) for dot in near}
    left = {(a, b) for a in near for b in near[a]}
    faces = []
    while left:
        a, b = first = min(left)
        face = []
        while (a, b) in left:
            left.remove((a, b))
            face.append(a)
            # The next side is the first one to the right of the way back.
            a, b = b, near[b][near[b].index(a) - 1]
        assert (a, b) == first
        faces.append(face)
    return faces


def own_triangles(field, cut):
    """The parts into which the EDGES and the rim part field, each an ascending triple of DOTS."""
    faces = [face for face in own_faces(set(cut) | own_rim(field)) if own_area(face) > 0]
    assert all(len(face) == 3 for face in faces)
    return tuple(sorted(tuple(sorted(face)) for face in faces))


def sides(triangle):
    return list(combinations(triangle, 2))


def own_far_dots(field, cut, edge):
    """The third corners, ascending, of the triangles beside edge."""
    return tuple(sorted((set(own) - set(edge)).pop() for own in own_triangles(field, cut) if set(edge) <= set(own)))


def own_turns(field, cut):
    """For each TURN of cut the EDGE that comes: where two triangles make a parallelogram."""
    beside = {}
    for own in own_triangles(field, cut):
        for edge in sides(own):
            beside.setdefault(edge, []).extend(set(own) - set(edge))
    found = {}
    for edge in cut:
        one, two = sorted(beside[edge])
        if middle((one, two)) == middle(edge):
            found[middle(edge)] = (one, two)
    return found


def exchanged(cut, spot, new):
    """The CUT with new at this MIDDLE."""
    return tuple(sorted([new if middle(edge) == spot else edge for edge in cut]))


@lru_cache(maxsize=None)
def own_net(field):
    """For each CUT of field those that differ from it by one EDGE alone, told by its MIDDLE."""
    groups = {}
    for cut in own_cuts(field):
        for at in range(len(cut)):
            groups.setdefault(cut[:at] + cut[at + 1:], []).append((middle(cut[at]), cut))
    net = {cut: {} for cut in own_cuts(field)}
    for group in groups.values():
        assert len(group) < 3
        for (spot, cut), (_, other) in [group, group[::-1]] if len(group) == 2 else []:
            net[cut][spot] = other
    return net


@lru_cache(maxsize=None)
def own_steps(field, start):
    """For each CUT of field how many TURNS it is from start, by a search through ALL CUTS."""
    net, steps, waiting = own_net(field), {start: 0}, deque([start])
    while waiting:
        cut = waiting.popleft()
        for other in net[cut].values():
            if other not in steps:
                steps[other] = steps[cut] + 1
                waiting.append(other)
    return steps


def with_bools(value):
    """value with True for 1, False for 0."""
    return tuple(map(with_bools, value)) if isinstance(value, tuple) else bool(value) if value in (0, 1) else value


def bent(dice, field, cut):
    """Tuples, and lists, that are like cut but no CUT of field."""
    rim, found = sorted(own_rim(field)), []
    if cut:
        at = dice.randrange(len(cut))
        edge = cut[at]
        found += [cut[:at] + cut[at + 1:], tuple(sorted(cut + (edge,))), list(cut), tuple(map(list, cut)), cut[:-1] + (None,),
                  tuple(tuple(map(list, own)) for own in cut), tuple((b, a) for a, b in cut), tuple(sorted(cut + (rim[0],))),
                  tuple(sorted(cut[:at] + cut[at + 1:] + (dice.choice(rim),))), cut + cut, (cut,), cut[:-1] + (cut[-1][0],)]
        lot = [own for own in own_lots(field)[middle(edge)] if own != edge and own != own_turns(field, cut).get(middle(edge))]
        found += [exchanged(cut, middle(edge), own) for own in lot[:2]]
        if repr(with_bools(cut)) != repr(cut):
            found.append(with_bools(cut))
        if len(cut) > 1:
            found += [cut[::-1], cut[1:] + cut[:1], cut[:at] + (cut[at - 1],) + cut[at + 1:]]
    else:
        found += [[], (rim[0],), ((),)]
    return found + [None, True, 0, "cut", rim, tuple(rim)]


def drawn_plan(dice, field, cut, many):
    """So many TURNS from cut on, drawn, at most, and all CUTS on the way."""
    plan, along = [], [cut]
    for _ in range(many):
        found = own_turns(field, along[-1])
        if found:
            plan.append(dice.choice(sorted(found)))
            along.append(exchanged(along[-1], plan[-1], found[plan[-1]]))
    return tuple(plan), along


def some_of(dice, field, edges, rim=True):
    """Some of edges, and of the rim EDGES, in whatever order, some twice."""
    own = dice.sample(list(edges), dice.randint(0, len(edges)))
    own += dice.sample(sorted(own_rim(field)), dice.randint(0, 2)) if rim else []
    own += own[:dice.randint(0, 2)]
    dice.shuffle(own)
    return tuple(own)
