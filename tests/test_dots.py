"""[5]: dots, arms, edges, middles."""

import random
import unittest
from math import gcd

from middledots import dots
from middledots.errors import CanNot, TooMany
from tests.helpers import deep_list, own_area, own_cross, random_arm, random_edge, told

BOUND = 10 ** 6


def many_edges(seed, many):
    """EDGES near one another, and far ones with numbers up to the bounds."""
    dice = random.Random(seed)
    near = [random_edge(dice, 3, 4) for _ in range(many)]
    far = [random_edge(dice, BOUND // 2, BOUND // 2) for _ in range(many // 4)]
    return near + far


def is_own_arm(x, y):
    return (x, y) == (0, 1) or x > 0 and all(x % d or y % d for d in range(2, max(abs(x), abs(y), 1) + 1))


class Things(unittest.TestCase):
    def test_small_pairs(self):
        for x in range(-7, 8):
            for y in range(-7, 8):
                self.assertIs(dots.is_dot((x, y)), True)
                self.assertIs(dots.is_arm((x, y)), is_own_arm(x, y), (x, y))
                self.assertIs(dots.can_be_middle((x, y)), x % 2 == 1 or y % 2 == 1)
                self.assertIs(dots.is_edge(((3, -2), (3 + x, -2 + y))), is_own_arm(x, y))

    def test_great_numbers(self):
        great = 10 ** 4000
        self.assertTrue(dots.is_dot((great, -great)))
        self.assertTrue(dots.is_arm((great, great + 1)) and dots.is_edge(((great, 0), (2 * great, great - 1))))
        self.assertFalse(dots.is_arm((great, great + 2)) or dots.is_edge(((great, 0), (0, 1))))
        self.assertTrue(dots.can_be_middle((great, great + 1)))
        self.assertFalse(dots.can_be_middle((great, great)))

    def test_what_is_none(self):
        none = [None, True, 3, "", "ab", (), (1,), (1, 2, 3), [1, 2], (1, True), (False, 1), (None, 1), ("1", 1), (1, "1"),
                ((1, 2),), ((1, 2), 3), deep_list(20), (1, 2) * 5000, [[1, 2], [2, 2]], ((1, 2), [2, 2]), [(1, 2), (2, 2)],
                ((1, 2), (2, True)), ((True, 2), (2, 2)), (5, (2, 2)), (("1", 2), (2, 2)),
                ((1, 2), (2, 2), (3, 2)), (((1, 2), (2, 2)),), ((2, 2), (1, 2)), ((1, 2), (1, 2))]
        for function in (dots.is_dot, dots.is_arm, dots.is_edge, dots.can_be_middle):
            for place, thing in enumerate(none):
                with self.subTest(function=function.__name__, place=place):
                    self.assertIs(function(thing), False)
        self.assertIs(dots.is_dot(((1, 2), (2, 2))), False)
        self.assertIs(dots.is_edge((1, 2)), False)


class Edges(unittest.TestCase):
    def test_ends_middles_arms_kinds_there_and_back(self):
        for own in many_edges(41, 800):
            low, high = own
            middle, arm = dots.middle_of(own), dots.arm_of(own)
            self.assertEqual(told((middle, arm)), told(((low[0] + high[0], low[1] + high[1]), (high[0] - low[0], high[1] - low[1]))))
            self.assertEqual((told(dots.edge(low, high)), told(dots.edge(high, low))), (told(own), told(own)))
            self.assertEqual(told(dots.edge_at(middle, arm)), told(own))
            self.assertEqual(dots.kind_of(middle), dots.kind_of(arm))
            self.assertEqual(told(dots.kind_of(middle)), told((middle[0] % 2, middle[1] % 2)))
            self.assertTrue(dots.is_edge(own) and dots.is_arm(arm) and dots.can_be_middle(middle))
            self.assertEqual(dots.square_of(arm), sum((low[k] - high[k]) ** 2 for k in (0, 1)))

    def test_edge_is_there_unless_a_dot_lies_between(self):
        for x in range(-6, 7):
            for y in range(-6, 7):
                if gcd(x, y) == 1:
                    self.assertEqual(dots.edge((2, 1), (2 + x, 1 + y)), tuple(sorted([(2, 1), (2 + x, 1 + y)])))
                else:
                    with self.assertRaises(CanNot):
                        dots.edge((2, 1), (2 + x, 1 + y))

    def test_edge_at_needs_one_kind(self):
        dice = random.Random(42)
        seen = set()
        for _ in range(600):
            middle, arm = (dice.randint(-9, 9), dice.randint(-9, 9)), random_arm(dice, dice.choice((4, BOUND)))
            if middle[0] % 2 == 0 and middle[1] % 2 == 0:
                continue
            alike = dots.kind_of(middle) == dots.kind_of(arm)
            seen.add((dots.kind_of(middle), alike))
            if alike:
                own = dots.edge_at(middle, arm)
                self.assertEqual((dots.middle_of(own), dots.arm_of(own)), (middle, arm))
            else:
                with self.assertRaises(CanNot):
                    dots.edge_at(middle, arm)
        self.assertEqual(len(seen), 6)


class Crossing(unittest.TestCase):
    def test_cross_beside_own_reckoning(self):
        edges = many_edges(43, 160)
        crossed = 0
        for at, own in enumerate(edges):
            for other in edges[:at + 1]:
                wanted = own_cross(own, other)
                self.assertIs(dots.cross(own, other), wanted, (own, other))
                self.assertIs(dots.cross(other, own), wanted, (own, other))
                crossed += wanted
        self.assertGreater(crossed, 500)

    def test_great_edges_that_cross_near_their_ends(self):
        dice = random.Random(44)
        seen = {True: 0, False: 0}
        while min(seen.values()) < 60:
            own = random_edge(dice, BOUND // 2, BOUND // 2)
            (ax, ay), (bx, by) = own
            k = dice.randint(1, 9)
            spot = (ax + (bx - ax) * k // 10, ay + (by - ay) * k // 10)
            dx, dy = random_arm(dice, 3)
            other = (spot, (spot[0] + dx, spot[1] + dy))
            seen[own_cross(own, other)] += 1
            self.assertIs(dots.cross(own, other), own_cross(own, other))

    def test_one_middle_one_dot_one_arm(self):
        dice = random.Random(45)
        for _ in range(300):
            own = random_edge(dice, 9, 6)
            middle, arm = dots.middle_of(own), dots.arm_of(own)
            other = random_arm(dice, 6)
            if dots.kind_of(other) == dots.kind_of(middle):
                self.assertIs(dots.cross(own, dots.edge_at(middle, other)), other != arm)
            for dot in own:
                far = (dot[0] + other[0], dot[1] + other[1])
                self.assertIs(dots.cross(own, (dot, far)), False)
            for _ in range(5):
                x, y = dice.randint(-9, 9), dice.randint(-9, 9)
                self.assertIs(dots.cross(own, ((x, y), (x + arm[0], y + arm[1]))), False)


class Sides(unittest.TestCase):
    def test_side_of(self):
        dice = random.Random(46)
        for own in many_edges(47, 300):
            (ax, ay), (bx, by) = own
            normal = (ay - by, bx - ax)
            for _ in range(4):
                k, far = dice.randint(-3, 3), dice.randint(-2, 2)
                dot = (ax + k * (bx - ax) + far * normal[0], ay + k * (by - ay) + far * normal[1])
                self.assertEqual(told(dots.side_of(own, dot)), told((far > 0) - (far < 0)))
            near = (ax + dice.randint(-4, 4), ay + dice.randint(-4, 4))
            wanted = own_area((own[0], own[1], near))
            self.assertEqual(dots.side_of(own, near), (wanted > 0) - (wanted < 0))

    def test_area_of(self):
        dice = random.Random(48)
        for _ in range(300):
            most = dice.choice((3, 10, BOUND))
            own = [(dice.randint(-most, most), dice.randint(-most, most)) for _ in range(dice.randint(0, 12))]
            area = dots.area_of(own)
            self.assertEqual(told(area), told(own_area(own)))
            self.assertEqual(dots.area_of(own[::-1]), -area)
            self.assertEqual(dots.area_of(own[3:] + own[:3]), area)
            self.assertLessEqual(abs(area), 2 * len(own) * most * most)
        self.assertEqual([dots.area_of(()), dots.area_of(((4, 5),)), dots.area_of(((4, 5), (7, -2)))], [0, 0, 0])


class Between(unittest.TestCase):
    def test_straight_ways(self):
        dice = random.Random(49)
        for _ in range(300):
            start = (dice.randint(-BOUND, BOUND), dice.randint(-BOUND, BOUND))
            arm = random_arm(dice, dice.choice((3, 400)))
            many, sign = dice.randint(0, 30), dice.choice((1, -1))
            stops = [(start[0] + sign * k * arm[0], start[1] + sign * k * arm[1]) for k in range(many + 1)]
            wanted = [tuple(sorted(stops[k:k + 2])) for k in range(many)]
            self.assertEqual(told(dots.edges_between(stops[0], stops[-1])), told(wanted))
            self.assertEqual(dots.edges_between(stops[-1], stops[0]), wanted[::-1])

    def test_too_many(self):
        for x, y in ((1, 0), (0, 1), (-3, 2), (0, -1), (499, 500)):
            self.assertEqual(len(dots.edges_between((5, 5), (5 + 2000 * x, 5 + 2000 * y))), 2000)
            with self.assertRaises(TooMany):
                dots.edges_between((5, 5), (5 + 2001 * x, 5 + 2001 * y))
        with self.assertRaises(TooMany):
            dots.edges_between((-10 ** 18, 0), (10 ** 18, 0))


if __name__ == "__main__":
    unittest.main()
