"""[24]: FIELDS parted by a PATH, CUTS with them, and put together along one."""

import random
import unittest
from functools import lru_cache
from itertools import combinations

from middledots import joins
from middledots.errors import CanNot, Unfit
from middledots.fewest import fewest
from tests.cutting import (drawn_shear, middle, own_all_dots, own_completed, own_crossed, own_cuts, own_faces, own_lots, own_rim, own_steps,
                           own_turns, own_with, sheared_edges, sheared_field, small_fields, with_bools)
from tests.helpers import (ELL, made_fields, own_area, own_cross, own_dots, own_edges_in, own_field, own_lies_in, own_middles, random_round, sheared,
                           told)

FIELDS = small_fields(521, 40, 200) + [((0, 0), (3, 0), (3, 3), (0, 3)), ((0, 0), (4, 0), (3, 3), (0, 2)), ((-1, -1), (3, 0), (2, 3), (1, 2), (0, 3))]
GREAT = [field for field in made_fields(522, 40, 6, 60) if 20 < len(own_lots(field)) < 60][:6]
BLOCK = ((0, 0), (2, 0), (2, 2), (0, 2))


# Ways of reckoning of the tests' own.

@lru_cache(maxsize=None)
def within(field):
    """The EDGES that lie in field, rim EDGES apart, ascending."""
    return own_edges_in(field)


def edges_of(dots):
    return [tuple(sorted(pair)) for pair in zip(dots, dots[1:])]


def own_is_path(field, dots):
    """Whether these DOTS, a tuple of them, are a PATH."""
    if len(dots) < 2 or len(set(dots)) < len(dots):
        return False
    if not {dots[0], dots[-1]} <= set(own_dots(field, "rim")) or not set(dots[1:-1]) <= set(own_dots(field, "inner")):
        return False
    edges = edges_of(dots)
    return all(edge in own_crossed(field) and edge not in own_rim(field) for edge in edges) and not any(
        own_cross(one, two) for one, two in combinations(edges, 2))


def own_parted(field, dots):
    """Both parts, left and right: those of the faces that the rim and the PATH bound that have its first step so, or back."""
    faces = [face for face in own_faces(set(edges_of(dots)) | own_rim(field)) if own_area(face) > 0]
    assert len(faces) == 2
    steps = [set(zip(face, face[1:] + face[:1])) for face in faces]
    left, right = [[face for face, own in zip(faces, steps) if step in own] for step in ((dots[0], dots[1]), (dots[1], dots[0]))]
    return (own_field(left[0]), own_field(right[0]))


def drawn_paths(dice, field, many):
    """PATHS by way of inner dots, drawn; some of two DOTS alone."""
    rim, inner = own_dots(field, "rim"), set(own_dots(field, "inner"))
    near = {}
    for low, high in within(field):
        near.setdefault(low, []).append(high)
        near.setdefault(high, []).append(low)
    found = []
    for _ in range(10 * many):
        path = [dice.choice(rim)]
        while path[-1] in inner or len(path) == 1:
            onward = [dot for dot in near.get(path[-1], []) if dot not in path and
                      not any(own_cross(tuple(sorted((path[-1], dot))), edge) for edge in edges_of(path))]
            if not onward:
                break
            deeper = [dot for dot in onward if dot in inner]
            path.append(dice.choice(deeper if deeper and dice.random() < 0.6 else onward))
        if len(path) > 1 and path[-1] not in inner and len(found) < many:
            found.append(tuple(path))
    return found


@lru_cache(maxsize=None)
def all_drawn(seed, many):
    """Pairs (field, dots)."""
    dice = random.Random(seed)
    return [(field, dots) for field in FIELDS for dots in drawn_paths(dice, field, many)]


def own_together(field, other):
    """(whole, dots); None if there is none: by the rim EDGES that both have, and those that one has alone."""
    common, rest = own_rim(field) & own_rim(other), own_rim(field) ^ own_rim(other)
    ends = [dot for edge in rest for dot in edge]
    if not common or any(ends.count(dot) != 2 for dot in ends):
        return None
    faces = [face for face in own_faces(rest) if own_area(face) > 0]
    whole = own_field(faces[0]) if len(faces) == 1 else None
    if whole is None or own_area(whole) != own_area(field) + own_area(other):
        return None
    # Along the rim of field, it to the left, from one DOT of both rims that stay to the other.
    round_on = next(face for face in own_faces(own_rim(field)) if own_area(face) > 0)
    steps = {low: high for low, high in zip(round_on, round_on[1:] + round_on[:1]) if tuple(sorted((low, high))) in common}
    starts = [dot for dot in steps if dot not in steps.values()]
    if len(starts) != 1:
        return None
    dots = [starts[0]]
    while dots[-1] in steps:
        dots.append(steps[dots[-1]])
    return (whole, tuple(dots))


class Paths(unittest.TestCase):
    def test_short_paths(self):
        for field in FIELDS + made_fields(523, 40):
            rim = set(own_dots(field, "rim"))
            wanted = tuple(edge for edge in within(field) if set(edge) <= rim)
            self.assertEqual(told(joins.short_paths(field)), told(wanted))
            self.assertTrue(all(joins.is_path(field, dots) and joins.is_path(field, dots[::-1]) for dots in wanted))
            self.assertEqual(joins.short_paths([list(dot) for dot in field]), wanted)

    def test_drawn_ones_are_paths(self):
        longest = 0
        for field, dots in all_drawn(524, 8):
            longest = max(longest, len(dots))
            self.assertIs(joins.is_path(field, dots), True)
            self.assertIs(joins.is_path(field, dots[::-1]), True)
        self.assertGreater(longest, 4)

    def test_bent_ones(self):
        dice = random.Random(525)
        seen = {True: 0, False: 0}
        for field, dots in all_drawn(526, 5):
            everything = own_all_dots(field)
            things = [dots[1:], dots[:-1], dots + (dots[0],), dots + (dice.choice(everything),), (dice.choice(everything),) + dots, dots[:1] * 2, (), dots[:1],
                      dots[:1] + (dice.choice(everything),) + dots[1:], tuple(dice.sample(everything, min(len(everything), len(dots)))),
                      dots[:-1] + (dice.choice(everything),), dots + dots[::-1][1:], dots[:-1] + ((99, 98),)]
            for thing in things:
                wanted = own_is_path(field, thing)
                seen[wanted] += 1
                self.assertIs(joins.is_path(field, thing), wanted, (field, thing))
            for at in range(len(dots)):
                for bad in (list(dots[at]), with_bools(dots[at]), None, (dots[at],)):
                    if told(bad) != told(dots[at]):
                        self.assertIs(joins.is_path(field, dots[:at] + (bad,) + dots[at + 1:]), False)
            for thing in (list(dots), tuple(map(list, dots)), (dots,), None, True, 5, "ab", dots + (None,), (None,) + dots, dots[:-1] + ((1, 2, 3),),
                          with_bools(dots), dots[:-1] + (5,), edges_of(dots), tuple(edges_of(dots))):
                if told(thing) != told(dots):
                    self.assertIs(joins.is_path(field, thing), False, thing)
        self.assertGreater(min(seen.values()), 50)

    def test_each_condition(self):
        hole = ((0, 0), (4, 0), (4, 4), (0, 4))
        for dots, wanted in ((((0, 0), (1, 1), (2, 1), (3, 0)), True), (((0, 1), (1, 1), (2, 1), (3, 1), (4, 1)), True), (((0, 1), (1, 2), (1, 1), (0, 2)), False),
                             (((0, 0), (2, 1), (1, 1), (2, 0)), False), (((0, 1), (2, 2), (4, 3)), True), (((0, 1), (2, 2), (4, 4)), False),
                             (((0, 0), (1, 0)), False), (((0, 1), (1, 0)), True), (((0, 0), (1, 1), (0, 0)), False), (((1, 1), (0, 1)), False),
                             (((0, 1), (1, 1)), False), (((0, 1), (1, 1), (1, 0), (2, 1), (4, 1)), False), (((0, 2), (1, 1), (2, 2), (1, 3), (0, 2)), False),
                             (((0, 2), (1, 1), (2, 2), (1, 3), (0, 3)), True), (((0, 2), (5, 1)), False), (((0, 1), (1, 1), (3, 1), (4, 1)), False),
                             (((0, 1), (1, 1), (1, 1), (1, 0)), False)):
            self.assertIs(joins.is_path(hole, dots), wanted, dots)
        self.assertIs(joins.is_path(ELL, ((1, 2), (2, 1))), False)
        self.assertIs(joins.is_path(ELL, ((0, 1), (1, 1))), True)
        self.assertEqual(told(joins.short_paths(((0, 0), (5, 2), (2, 1)))), told(()))


class Parted(unittest.TestCase):
    def test_beside_own_faces(self):
        for field, dots in all_drawn(527, 8):
            wanted = own_parted(field, dots)
            self.assertEqual(told(joins.parted(field, dots)), told(wanted))
            self.assertEqual(told(joins.parted(list(field), [list(dot) for dot in dots])), told(wanted))
            self.assertEqual(joins.parted(field, dots[::-1]), wanted[::-1])
            self.assertEqual(sum(map(own_area, wanted)), own_area(field))
            spots = own_middles(wanted[0]) + own_middles(wanted[1]) + tuple(map(middle, edges_of(dots)))
            self.assertEqual(tuple(sorted(spots)), own_middles(field))

    def test_all_short_ones(self):
        for field in FIELDS[:25]:
            rim = set(own_dots(field, "rim"))
            for edge in within(field):
                if set(edge) <= rim:
                    for dots in (edge, edge[::-1]):
                        wanted = own_parted(field, dots)
                        self.assertEqual(joins.parted(field, dots), wanted)
                        self.assertEqual(joins.put_together(*wanted), (field, dots))

    def test_great_fields(self):
        dice = random.Random(528)
        for field in GREAT:
            for dots in drawn_paths(dice, field, 4):
                wanted = own_parted(field, dots)
                self.assertEqual((joins.parted(field, dots), joins.put_together(*wanted)), (wanted, (field, dots)))


class Together(unittest.TestCase):
    def test_both_parts(self):
        for field, dots in all_drawn(529, 8):
            parts = own_parted(field, dots)
            self.assertEqual(told(joins.put_together(*parts)), told((field, dots)))
            self.assertEqual(told(joins.put_together(list(parts[0]), [list(dot) for dot in parts[1]])), told((field, dots)))
            self.assertEqual(joins.put_together(*parts[::-1]), (field, dots[::-1]))
            self.assertEqual(own_together(*parts), (field, dots))

    def check_pair(self, field, other):
        wanted = own_together(field, other)
        if wanted is None:
            with self.assertRaises(CanNot):
                joins.put_together(field, other)
            with self.assertRaises(CanNot):
                joins.cuts_together(field, own_completed(field), other, own_completed(other))
        else:
            self.assertEqual(joins.put_together(field, other), wanted, (field, other))
            self.assertEqual(joins.parted(*wanted), (field, other))
        return wanted is None

    def test_pairs_of_small_fields(self):
        dice = random.Random(530)
        pool = {((0, 0), (1, 0), (1, 1)): True, ((0, 0), (1, 1), (0, 1)): True}
        while len(pool) < 70:
            size = dice.choice([2, 3])
            field = own_field(random_round(dice, dice.randint(3, 7), size))
            dx, dy = dice.choice([(0, 0), (1, 0), (2, 0), (0, 1), (1, 1)])
            if field is not None:
                pool[tuple((x + dx, y + dy) for x, y in field)] = True
        seen = [0, 0]
        for field in pool:
            for other in pool:
                seen[self.check_pair(field, other)] += 1
        self.assertGreater(seen[0], 100)

    def test_such_that_make_none(self):
        ring = own_field(((0, 0), (3, 0), (3, 3), (2, 3), (2, 1), (1, 1), (1, 3), (0, 3)))
        for field, other in ((BLOCK, BLOCK), (BLOCK, ((5, 5), (6, 5), (6, 6))), (BLOCK, ((2, 2), (3, 2), (3, 3))), (BLOCK, ((0, 0), (1, 0), (1, 1), (0, 1))),
                             (BLOCK, ((1, 1), (3, 1), (3, 3), (1, 3))), (((0, 0), (2, 0), (2, 1), (0, 1)), ((0, 1), (2, 1), (2, 2), (0, 2))),
                             # At both arms of the ring, and at one alone with a DOT of the other one.
                             (ring, ((1, 3), (2, 3), (2, 4), (1, 4))), (ring, own_field(((0, 3), (1, 3), (2, 3), (3, 3), (2, 4)))),
                             (ring, own_field(((0, 3), (1, 3), (2, 3), (1, 4)))), (ring, own_field(((0, 3), (1, 3), (1, 4)))),
                             # What fills the ring up, and what is filled up in part.
                             (ring, ((1, 1), (2, 1), (2, 3), (1, 3))), (ring, ((1, 1), (2, 1), (2, 2), (1, 2))), (ring, own_field(((1, 2), (2, 2), (2, 3), (1, 3)))),
                             # Beside one another along one EDGE, and within one another beyond it.
                             (own_field(((0, 0), (1, 0), (1, 1), (0, 1))), own_field(((1, 0), (2, -1), (1, -3), (-3, 4), (1, 1)))),
                             (BLOCK, own_field(((0, 0), (2, 0), (3, 3)))), (BLOCK, own_field(((0, 0), (2, 0), (1, -3))))):
            self.check_pair(field, other)
            self.check_pair(other, field)
        self.assertIsNone(own_together(ring, ((1, 3), (2, 3), (2, 4), (1, 4))))
        self.assertEqual(joins.put_together(ring, ((1, 1), (2, 1), (2, 3), (1, 3))), (((0, 0), (3, 0), (3, 3), (0, 3)), ((2, 3), (2, 2), (2, 1), (1, 1), (1, 2), (1, 3))))


class Cuts(unittest.TestCase):
    def test_parted_and_together(self):
        dice = random.Random(531)
        for field, dots in all_drawn(532, 3):
            if field not in FIELDS[:40]:
                continue
            parts, having = own_parted(field, dots), own_with(field, edges_of(dots))
            for cut in dice.sample(having, min(4, len(having))):
                wanted = tuple(tuple(edge for edge in cut if edge in within(part)) for part in parts)
                self.assertEqual(told(joins.cut_parted(field, dots, cut)), told(wanted))
                self.assertEqual(told(joins.cut_parted(list(field), list(dots), [list(edge) for edge in cut])), told(wanted))
                self.assertTrue(all(own in own_cuts(part) for own, part in zip(wanted, parts)))
                self.assertEqual(told(joins.cuts_together(parts[0], wanted[0], parts[1], wanted[1])), told(cut))
                self.assertEqual(joins.cuts_together(list(parts[1]), list(wanted[1]), parts[0], [list(edge) for edge in wanted[0]]), cut)

    def test_as_many_as_those_of_both_parts_multiplied(self):
        for field, dots in all_drawn(533, 2):
            if field in FIELDS[:40]:
                parts = own_parted(field, dots)
                made = [joins.cuts_together(parts[0], one, parts[1], two) for one in own_cuts(parts[0]) for two in own_cuts(parts[1])]
                self.assertEqual(sorted(made), own_with(field, edges_of(dots)))

    def test_fewest_added_up(self):
        dice = random.Random(534)
        for field, dots in all_drawn(535, 3):
            if field in FIELDS[:40]:
                parts, having = own_parted(field, dots), own_with(field, edges_of(dots))
                cut, other = dice.choice(having), dice.choice(having)
                both = list(zip(parts, joins.cut_parted(field, dots, cut), joins.cut_parted(field, dots, other)))
                self.assertEqual(sum(fewest(*own) for own in both), own_steps(field, cut)[other])
                spots = {middle(edge) for edge in edges_of(dots)}
                turns = [spot for part, one, _ in both for spot in own_turns(part, one)]
                self.assertEqual(sorted(turns), sorted(set(own_turns(field, cut)) - spots))

    def test_great_fields(self):
        dice = random.Random(536)
        for field in GREAT:
            for dots in drawn_paths(dice, field, 2):
                edges = edges_of(dots)
                cut = own_completed(field, edges)
                one, two = joins.cut_parted(field, dots, cut)
                self.assertEqual(sorted(one + two + tuple(edges)), list(cut))
                left, right = own_parted(field, dots)
                self.assertEqual(joins.cuts_together(left, one, right, two), cut)

    def test_cuts_without_the_path(self):
        seen = 0
        for field, dots in all_drawn(537, 3):
            if field in FIELDS[:40]:
                for cut in own_cuts(field)[::7]:
                    if not set(edges_of(dots)) <= set(cut):
                        seen += 1
                        with self.assertRaises(CanNot):
                            joins.cut_parted(field, dots, cut)
        self.assertGreater(seen, 200)


class Errors(unittest.TestCase):
    up, dots = ((0, 0), (1, 1), (2, 1)), ((0, 0), (1, 1), (2, 1))
    wrong_fields = (None, 5, "ab", (), BLOCK[::-1], BLOCK[1:] + BLOCK[:1], BLOCK[:2], ((0, 0), (1, 0), (2, 0), (0, 1)), (BLOCK,), ((0, 0), (1, 0), (0, True)))
    wrong_paths = (None, 5, "ab", (), ((0, 0),), ((0, 0), (1, 1)), ((0, 0), (1, 0)), ((0, 0), (2, 2)), ((0, 1), (1, 1), (0, 1)), ((0, 0), (1, True)), ((1, 1), (0, 0)),
                   ((0, 0), (9, 8)), ((0, 0), None), (((0, 0), (1, 2)),), ((0, 1), (1, 1, 1), (2, 1)))

    def check(self, error, function, *args):
        with self.assertRaises(error):
            function(*args)

    def test_no_field(self):
        for field in self.wrong_fields:
            self.check(Unfit, joins.is_path, field, self.dots)
            self.check(Unfit, joins.is_path, field, None)
            self.check(Unfit, joins.short_paths, field)
            for dots in (self.dots, None):
                self.check(Unfit, joins.parted, field, dots)
                self.check(Unfit, joins.cut_parted, field, dots, own_completed(BLOCK))
            self.check(Unfit, joins.put_together, field, BLOCK)
            self.check(Unfit, joins.put_together, BLOCK, field)
            self.check(Unfit, joins.cuts_together, field, own_completed(BLOCK), BLOCK, own_completed(BLOCK))
            self.check(Unfit, joins.cuts_together, BLOCK, own_completed(BLOCK), field, own_completed(BLOCK))

    def test_no_path(self):
        for dots in self.wrong_paths:
            self.check(Unfit, joins.parted, BLOCK, dots)
            for cut in (own_completed(BLOCK), own_cuts(BLOCK)[-1], None, ()):
                self.check(Unfit, joins.cut_parted, BLOCK, dots, cut)
        for field in FIELDS[:20]:
            for edge in own_rim(field):
                self.check(Unfit, joins.parted, field, edge)

    def test_no_cut(self):
        cut = own_completed(BLOCK)
        for own in (cut[1:], cut[::-1], None, 5, (), own_completed(ELL), cut + cut, "cut"):
            self.check(Unfit, joins.cut_parted, BLOCK, self.dots, own)
            self.check(Unfit, joins.cut_parted, BLOCK, None, own)
            self.check(Unfit, joins.cuts_together, BLOCK, own, BLOCK, cut)
            self.check(Unfit, joins.cuts_together, BLOCK, cut, BLOCK, own)
        small = ((5, 5), (6, 5), (5, 6))
        self.check(Unfit, joins.cuts_together, BLOCK, cut, small, cut)
        self.check(Unfit, joins.cuts_together, small, cut, BLOCK, cut)
        self.check(CanNot, joins.cuts_together, BLOCK, cut, small, ())
        self.check(CanNot, joins.cuts_together, BLOCK, cut, BLOCK, cut)

    def test_edges_that_leave_the_field(self):
        for field in made_fields(538, 40):
            dots = own_all_dots(field)
            for one, two in list(combinations(dots, 2))[::5]:
                if not own_lies_in(field, (one, two)):
                    self.assertIs(joins.is_path(field, (one, two)), False)


class Guarantees(unittest.TestCase):
    def test_sheared(self):
        dice = random.Random(539)
        for field, dots in all_drawn(540, 1):
            first, second, move = shear = drawn_shear(dice)
            far, path = sheared_field(field, shear), tuple(sheared(dot, *shear) for dot in dots)
            wanted = tuple(sheared_field(part, shear) for part in own_parted(field, dots))
            keeps = first[0] * second[1] - first[1] * second[0] == 1
            self.assertEqual(joins.parted(far, path), wanted if keeps else wanted[::-1])
            self.assertEqual(len(sheared_edges(joins.short_paths(field), shear)), len(joins.short_paths(far)))


if __name__ == "__main__":
    unittest.main()
