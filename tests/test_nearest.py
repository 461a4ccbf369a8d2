"""[16]: the nearest CUT with told EDGES, and the nearest ARM at a MIDDLE."""

import random
import unittest
from itertools import combinations

from middledots import nearest
from middledots.errors import Crossing, NoMiddle, Unfit
from tests.cutting import (arm, bent, drawn_plan, drawn_shear, middle, own_completed, own_cuts, own_free, own_lots, own_rim, own_steps,
                           own_with, sheared_edges, sheared_field, small_fields, some_of)
from tests.helpers import ELL, made_fields, own_arms, own_cross, own_length, told

FIELDS = small_fields(321, 40, 400)
GREAT = [field for field in made_fields(322, 40, 6, 60) if 20 < len(own_lots(field)) < 60][:6]
ARMS = own_arms(7)
BLOCK = ((0, 0), (2, 0), (2, 1), (0, 1))


def drawn(dice, many):
    """Triples (field, cut, edges): some EDGES of another CUT, rim EDGES let, some twice, in whatever order."""
    found = []
    for field in FIELDS:
        for at in range(many):
            edges = some_of(dice, field, dice.choice(own_cuts(field)))
            found.append((field, dice.choice(own_cuts(field)), edges if at % 2 else edges[:2]))
    return found


def own_nearest(field, cut, edges):
    """The only CUT with edges that is fewest TURNS from cut, and how many."""
    steps = sorted((own_steps(field, cut)[own], own) for own in own_with(field, edges))
    assert len(steps) == 1 or steps[0][0] < steps[1][0]
    return steps[0]


def own_arm_near(left, own):
    """The only one of these ARMS with the shortest way from own."""
    lengths = sorted((own_length(own, far), far) for far in left)
    assert len(lengths) == 1 or lengths[0][0] < lengths[1][0]
    return lengths[0][1]


class Nearest(unittest.TestCase):
    def test_beside_the_least_fewest(self):
        for field, cut, edges in drawn(random.Random(323), 12):
            with self.subTest(field=field, cut=cut, edges=edges):
                many, wanted = own_nearest(field, cut, edges)
                self.assertEqual(told(nearest.nearest(field, cut, edges)), told(wanted))
                self.assertEqual(told(nearest.far_from(field, cut, edges)), told(many))
                self.assertIs(nearest.is_nearest(field, cut, edges, wanted), True)
                as_lists = [[list(dot) for dot in edge] for edge in edges]
                self.assertEqual(told(nearest.nearest(list(field), list(cut), as_lists)), told(wanted))

    def test_with_no_edges_or_own_ones(self):
        dice = random.Random(324)
        for field in FIELDS:
            cut = dice.choice(own_cuts(field))
            for edges in ((), cut, some_of(dice, field, cut), sorted(own_rim(field))):
                self.assertEqual((nearest.nearest(field, cut, edges), nearest.far_from(field, cut, edges)), (cut, 0))

    def test_with_a_whole_cut(self):
        dice = random.Random(325)
        for field in FIELDS:
            cut, other = dice.choice(own_cuts(field)), dice.choice(own_cuts(field))
            self.assertEqual(nearest.nearest(field, cut, other[::-1]), other)
            self.assertEqual(nearest.far_from(field, cut, other[::-1]), own_steps(field, cut)[other])

    def test_each_edge_alone(self):
        for field in FIELDS[:20]:
            cut = own_completed(field)
            for lot in own_lots(field).values():
                for edge in lot:
                    self.assertEqual((nearest.far_from(field, cut, (edge,)), nearest.nearest(field, cut, (edge,))),
                                     own_nearest(field, cut, (edge,)))

    def test_by_the_nearest_one_to_each_other(self):
        for field, cut, edges in drawn(random.Random(326), 4):
            many, wanted = own_nearest(field, cut, edges)
            for other in own_with(field, edges):
                self.assertEqual(own_steps(field, cut)[other], nearest.far_from(field, cut, edges) + own_steps(field, wanted)[other])

    def test_is_nearest_of_others(self):
        dice = random.Random(327)
        for field, cut, edges in drawn(dice, 2):
            _, wanted = own_nearest(field, cut, edges)
            for thing in bent(dice, field, wanted) + [dice.choice(own_cuts(field)), cut, edges, list(own_cuts(field))]:
                if told(thing) != told(wanted):
                    self.assertIs(nearest.is_nearest(field, cut, edges, thing), False, thing)

    def test_great_fields(self):
        dice = random.Random(328)
        for field in GREAT:
            cut = own_completed(field)
            edges = some_of(dice, field, drawn_plan(dice, field, cut, 30)[1][-1])[:6]
            found = nearest.nearest(field, cut, edges)
            arms = {middle(edge): arm(edge) for edge in cut}
            free = {spot: [arm(edge) for edge in lot if not any(own_cross(edge, other) for other in edges)]
                    for spot, lot in own_lots(field).items()}
            self.assertEqual({middle(edge): arm(edge) for edge in found}, {spot: own_arm_near(free[spot], arms[spot]) for spot in free})
            self.assertEqual(nearest.far_from(field, cut, edges),
                             sum(own_length(arms[middle(edge)], arm(edge)) for edge in found))


class Arms(unittest.TestCase):
    def test_arms_left(self):
        for field, _, edges in drawn(random.Random(329), 5):
            for spot, lot in own_free(field, edges).items():
                self.assertEqual(told(nearest.arms_left(field, edges, spot)), told(tuple(sorted(arm(edge) for edge in lot))))

    def test_nearest_arm(self):
        dice = random.Random(330)
        for field, _, edges in drawn(dice, 3):
            for spot, lot in own_free(field, edges).items():
                left = [arm(edge) for edge in lot]
                for own in [arm(edge) for edge in own_lots(field)[spot]] + dice.sample(ARMS[spot[0] % 2, spot[1] % 2], 4):
                    self.assertEqual(told(nearest.nearest_arm(field, edges, spot, own)), told(own_arm_near(left, own)))
                    self.assertEqual(nearest.nearest_arm(field, list(edges), list(spot), list(own)), own_arm_near(left, own))

    def test_great_arms(self):
        for number in (10 ** 18 - 1, 10 ** 17 + 1):
            self.assertEqual(nearest.nearest_arm(BLOCK, (), (1, 1), (number, 1)), (1, 1))
            self.assertEqual(nearest.nearest_arm(BLOCK, (), (1, 1), (number, -1)), (1, -1))
            self.assertEqual(nearest.nearest_arm(BLOCK, (((0, 1), (1, 0)),), (1, 1), (number, 1)), (1, -1))
            self.assertEqual(nearest.nearest_arm(BLOCK, (), (2, 1), (number - 1, 1)), (2, 1))

    def test_rim_edges_cross_nothing(self):
        for field in FIELDS[:10]:
            for spot, lot in own_lots(field).items():
                self.assertEqual(nearest.arms_left(field, sorted(own_rim(field)), spot), tuple(sorted(map(arm, lot))))


class Errors(unittest.TestCase):
    up, down = ((0, 0), (1, 1)), ((0, 1), (1, 0))

    def check(self, error, function, *args):
        with self.assertRaises(error) as caught:
            function(*args)
        return caught.exception

    def test_crossing_told_by_the_least_pair(self):
        dice = random.Random(331)
        seen = 0
        for field, cut, edges in drawn(dice, 4):
            mixed = list(edges) + list(some_of(dice, field, cut))
            dice.shuffle(mixed)
            found = [pair for pair in combinations(sorted(set(mixed)), 2) if own_cross(*pair)]
            if found:
                seen += 1
                spot = dice.choice(list(own_lots(field)))
                own = arm(own_lots(field)[spot][0])
                for call in ((nearest.nearest, field, cut, mixed), (nearest.far_from, field, cut, mixed),
                             (nearest.is_nearest, field, cut, mixed, None), (nearest.is_nearest, field, cut, mixed, cut),
                             (nearest.arms_left, field, mixed, spot), (nearest.nearest_arm, field, mixed, spot, own)):
                    error = self.check(Crossing, *call)
                    self.assertEqual(told((error.edge, error.other)), told(found[0]))
        self.assertGreater(seen, 30)

    def test_no_middle(self):
        dice = random.Random(332)
        for field, _, edges in drawn(dice, 1):
            x, y = dice.choice(field)
            for spot in [(2 * x + dx, 2 * y + dy) for dx in range(-2, 3) for dy in range(-2, 3)] + [(10 ** 9, 1)]:
                if spot not in own_lots(field):
                    for call in ((nearest.arms_left, field, edges, list(spot)), (nearest.nearest_arm, field, edges, list(spot), (1, 1)),
                                 (nearest.nearest_arm, field, edges, spot, None)):
                        self.assertEqual(told(self.check(NoMiddle, *call).middle), told(spot))

    def test_of_cut_and_edges_unfit_ahead_of_crossing(self):
        cut, both, far = own_cuts(BLOCK)[0], (self.up, self.down), ((0, 0), (1, 2))
        for function in (nearest.nearest, nearest.far_from, lambda *args: nearest.is_nearest(*args, None)):
            for own, edges in ((cut[1:], both), (None, both), (cut[::-1], ()), (cut, both + (far,)), (cut, (far,)), (cut, None), (cut, 5),
                               (cut, both + (None,)), (cut, (self.up[::-1],)), (own_cuts(ELL)[0], ())):
                self.check(Unfit, function, BLOCK, own, edges)
            self.check(Unfit, function, BLOCK[::-1], cut, both)

    def test_at_a_middle_unfit_then_no_middle_then_crossing(self):
        both, far = (self.up, self.down), ((0, 0), (1, 2))
        for edges, spot in (((far,), (99, 99)), (both + (far,), (1, 1)), (both, (1,)), (both, None), (both, (True, 1)), (None, (99, 99)),
                            ((), (1, 1, 1)), (both, "ab")):
            self.check(Unfit, nearest.arms_left, BLOCK, edges, spot)
            for own in ((1, 1), None, (2, 2)):
                self.check(Unfit, nearest.nearest_arm, BLOCK, edges, spot, own)
        for spot in ((99, 99), (2, 2), (0, 0), (1, 0)):
            self.check(NoMiddle, nearest.arms_left, BLOCK, both, spot)
            for own in ((1, 1), None, (2, 2), (1, 0)):
                self.check(NoMiddle, nearest.nearest_arm, BLOCK, both, spot, own)
        for own in (None, 5, True, "ab", (), (2, 2), (-1, 1), (0, -1), (1, 0), (0, 1), (2, 1), (1, 1, 1), (True, 1), (1.0, 1), ((1, 1),)):
            self.check(Unfit, nearest.nearest_arm, BLOCK, both, (1, 1), own)
            self.check(Unfit, nearest.nearest_arm, BLOCK, (), (1, 1), own)
        self.check(Crossing, nearest.nearest_arm, BLOCK, both, (1, 1), (3, 5))
        self.check(Crossing, nearest.arms_left, BLOCK, both, (3, 1))


class Guarantees(unittest.TestCase):
    def test_sheared(self):
        dice = random.Random(333)
        for field, cut, edges in drawn(dice, 1):
            shear = drawn_shear(dice)
            _, wanted = own_nearest(field, cut, edges)
            found = nearest.nearest(sheared_field(field, shear), sheared_edges(cut, shear), sheared_edges(edges, shear))
            self.assertEqual(found, sheared_edges(wanted, shear))


if __name__ == "__main__":
    unittest.main()
