"""[8]: halves, medians, and the halves of edges that cross."""

import random
import unittest

from middledots.arms import at_step, elder
from middledots.errors import CanNot
from middledots.halves import base_of, halves, is_in_half, many_in_half, median, sum_of_ways
from tests.helpers import (next_arm, own_arm, own_arms, own_cross, own_length, own_neighbours, own_way, random_arm, random_edge,
                           random_shear, sheared, told)

SMALL = own_arms(6)
EVERY = [arm for kind in sorted(SMALL) for arm in SMALL[kind]]


def kind(pair):
    return (pair[0] % 2, pair[1] % 2)


def neighbour_pairs():
    return [(arm, other) for arm in EVERY for other in own_neighbours(arm, 6)]


def own_median(arms):
    """The ARMS with the least sum of lengths, of all on ways between them: there must be one alone."""
    near = {own for one in arms for two in arms for own in own_way(one, two)}
    sums = {own: sum(own_length(own, arm) for arm in arms) for own in near}
    return [own for own in sorted(near) if sums[own] == min(sums.values())]


class Halves(unittest.TestCase):
    def test_base(self):
        for arm, other in neighbour_pairs():
            one, two = base_of(arm, other)
            self.assertLess(one, two)
            self.assertEqual([own_arm(one), own_arm(two)], [one, two])
            self.assertEqual(abs(one[0] * two[1] - one[1] * two[0]), 1)
            sums = {own_arm((one[0] + two[0], one[1] + two[1])), own_arm((one[0] - two[0], one[1] - two[1]))}
            self.assertEqual(sums, {arm, other})
            self.assertEqual(told(base_of(arm, other)), told(base_of(other, arm)))

    def test_base_and_halves_of_no_neighbours(self):
        pairs = set(neighbour_pairs())
        for arm in EVERY:
            for other in EVERY:
                if (arm, other) not in pairs:
                    for call in ((base_of, arm, other), (is_in_half, arm, other, arm), (many_in_half, arm, other, (arm,))):
                        with self.assertRaises(CanNot):
                            call[0](*call[1:])

    def test_each_arm_is_in_one_half_the_nearer_one(self):
        for arm, other in neighbour_pairs()[::2]:
            for third in SMALL[kind(arm)]:
                found = (is_in_half(arm, other, third), is_in_half(other, arm, third))
                nearer = own_length(third, arm) < own_length(third, other)
                self.assertEqual(told(found), told((nearer, not nearer)), (arm, other, third))

    def test_a_way_changes_halves_by_the_one_step(self):
        for arm, other in neighbour_pairs()[::7]:
            for one in SMALL[kind(arm)][::3]:
                for two in SMALL[kind(arm)][::2]:
                    way = own_way(one, two)
                    steps = [way[at:at + 2] for at in range(len(way) - 1)]
                    goes = is_in_half(arm, other, one) and is_in_half(other, arm, two)
                    self.assertEqual(goes, (arm, other) in steps)

    def test_great_arms(self):
        dice = random.Random(71)
        for _ in range(300):
            arm, other = dice.choice(neighbour_pairs()[::11])
            third = dice.choice(SMALL[kind(arm)])
            wanted = own_length(third, arm) < own_length(third, other)
            first, second = random_shear(dice, 40)
            led = [own_arm(sheared(own, first, second)) for own in (arm, other, third)]
            self.assertIs(is_in_half(*led), wanted)

    def test_many(self):
        dice = random.Random(72)
        for arm, other in neighbour_pairs()[::5]:
            arms = [dice.choice(SMALL[kind(arm)]) for _ in range(dice.randint(1, 9))]
            wanted = sum(own_length(own, arm) < own_length(own, other) for own in arms)
            self.assertEqual(told(many_in_half(arm, other, arms)), told(wanted))

    def test_another_kind(self):
        for arm, other in neighbour_pairs()[::9]:
            for third in EVERY[::4]:
                if kind(third) != kind(arm):
                    for call in ((is_in_half, arm, other, third), (many_in_half, arm, other, (arm, third)),
                                 (many_in_half, arm, other, (third,)), (many_in_half, arm, other, (third, arm, other))):
                        with self.assertRaises(CanNot):
                            call[0](*call[1:])


class Medians(unittest.TestCase):
    def test_sums(self):
        dice = random.Random(73)
        for _ in range(300):
            own = SMALL[dice.choice(sorted(SMALL))]
            arm, arms = dice.choice(own), [dice.choice(own) for _ in range(dice.randint(1, 9))]
            self.assertEqual(told(sum_of_ways(arms, arm)), told(sum(own_length(arm, other) for other in arms)))

    def test_of_one_to_nine_beside_the_least_sum(self):
        dice = random.Random(74)
        for count in range(400):
            own = SMALL[dice.choice(sorted(SMALL))]
            arms = [dice.choice(own) for _ in range((1, 3, 5, 7, 9)[count % 5])]
            if count % 3 == 0:
                arms += dice.choices(arms, k=len(arms) - 1)[:9 - len(arms)]
                arms = arms if len(arms) % 2 else arms[:-1]
            wanted = own_median(arms)
            self.assertEqual(len(wanted), 1)
            self.assertEqual(told(median(arms)), told(wanted[0]))
            dice.shuffle(arms)
            self.assertEqual(median(arms), wanted[0])
            more = [arm for arm in arms if 2 * arms.count(arm) > len(arms)]
            self.assertTrue(not more or more[0] == wanted[0])

    def test_in_a_half_exactly_if_more_than_half_are(self):
        dice = random.Random(75)
        pairs = neighbour_pairs()
        for _ in range(150):
            arm, other = dice.choice(pairs)
            arms = [dice.choice(SMALL[kind(arm)]) for _ in range(dice.choice((1, 3, 5, 7, 9)))]
            self.assertEqual(is_in_half(arm, other, median(arms)), 2 * many_in_half(arm, other, arms) > len(arms))

    def test_of_three_it_is_on_each_way(self):
        dice = random.Random(76)
        for _ in range(200):
            own = SMALL[dice.choice(sorted(SMALL))]
            one, two, three = (dice.choice(own) for _ in range(3))
            common = set(own_way(one, two)) & set(own_way(two, three)) & set(own_way(one, three))
            self.assertEqual({median((one, two, three))}, common)

    def test_great_arms(self):
        dice = random.Random(77)
        for _ in range(60):
            own = SMALL[dice.choice(sorted(SMALL))]
            arms = [dice.choice(own) for _ in range(dice.choice((3, 5, 9)))]
            first, second = random_shear(dice, 60)
            led = [own_arm(sheared(arm, first, second)) for arm in arms]
            self.assertEqual(median(led), own_arm(sheared(own_median(arms)[0], first, second)))
        n = 10 ** 17
        ways = ((2 * n + 1, 2 * n), (2 * n + 1, -2 * n), (6 * n + 1, 6 * n))
        self.assertEqual(median(ways), (2 * n + 1, 2 * n))
        self.assertEqual(sum_of_ways(ways, (1, 0)), 5 * n)

    def test_of_great_unlike_arms_the_sum_grows_on_each_side(self):
        dice = random.Random(78)
        for _ in range(40):
            arms = []
            while len(arms) < 9:
                arm = random_arm(dice, 10 ** dice.randint(2, 18))
                arms += [arm] if kind(arm) == (1, 1) else []
            for many in (3, 5, 9):
                found = median(arms[:many])
                least = sum_of_ways(arms[:many], found)
                near = {next_arm(found, elder(found) or (1, -found[1]), shift) for shift in range(-4, 5)}
                near |= {at_step(found, arm, 1) for arm in arms[:many] if arm != found}
                for own in near:
                    self.assertGreater(sum_of_ways(arms[:many], own), least)
                    self.assertLess(2 * many_in_half(own, found, arms[:many]), many)

    def test_even_and_unlike_ones(self):
        for arms in (((1, 0), (3, 2)), ((1, 0), (1, 1)), ((1, 0),) * 8, ((1, 0), (3, 2), (1, 1)), ((1, 0), (0, 1), (1, 1))):
            with self.assertRaises(CanNot):
                median(arms)
        for arms, arm in ((((1, 0), (3, 2)), (1, 1)), (((1, 0), (1, 1)), (1, 0)), (((1, 0), (1, 1)), (1, 1))):
            with self.assertRaises(CanNot):
                sum_of_ways(arms, arm)


def arms_of_half(half, kind_arms):
    """Those ARMS that are nearer to the first one of the half than to the second one."""
    return [arm for arm in kind_arms if own_length(arm, half[0]) < own_length(arm, half[1])]


def own_half(arm, far):
    """The half by the words of the document: u and w are looked for."""
    found = set()
    for ux in range(-9, 10):
        for uy in range(-9, 10):
            wx, wy = arm[0] - ux, arm[1] - uy
            det = ux * wy - uy * wx
            if det in (1, -1):
                x, y = (far[0] * wy - far[1] * wx) * det, (ux * far[1] - uy * far[0]) * det
                if x * y < 0:
                    found.add((arm, own_arm((ux - wx, uy - wy))))
    return found


def crossing_pairs(seed, many):
    """Pairs of EDGES, of unlike MIDDLES, that cross."""
    dice = random.Random(seed)
    found = []
    while len(found) < many:
        own, other = random_edge(dice, 3, 4), random_edge(dice, 3, 4)
        if own_cross(own, other) and twice(own) != twice(other):
            found.append((own, other))
    return found


def twice(edge):
    (ax, ay), (bx, by) = edge
    return (ax + bx, ay + by)


def own_arm_of(edge):
    (ax, ay), (bx, by) = edge
    return (bx - ax, by - ay)


def own_edge_at(middle, arm):
    """The EDGE there with this ARM."""
    low = ((middle[0] - arm[0]) // 2, (middle[1] - arm[1]) // 2)
    return (low, (low[0] + arm[0], low[1] + arm[1]))


class CrossingEdges(unittest.TestCase):
    def test_beside_the_words_of_the_document(self):
        for own, other in crossing_pairs(79, 300):
            found = halves(own, other)
            self.assertEqual({found[0]}, own_half(own_arm_of(own), own_arm_of(other)))
            self.assertEqual({found[1]}, own_half(own_arm_of(other), own_arm_of(own)))
            self.assertEqual(told(halves(other, own)), told(found[::-1]))

    def test_each_edge_of_one_half_crosses_each_of_the_other(self):
        for own, other in crossing_pairs(80, 60):
            first, second = halves(own, other)
            for one in arms_of_half(first, SMALL[kind(own_arm_of(own))]):
                for two in arms_of_half(second, SMALL[kind(own_arm_of(other))]):
                    pair = (own_edge_at(twice(own), one), own_edge_at(twice(other), two))
                    self.assertTrue(own_cross(*pair), (own, other, pair))

    def test_far_and_great_edges(self):
        dice = random.Random(81)
        for own, other in crossing_pairs(82, 200):
            (one, one_far), (two, two_far) = halves(own, other)
            first, second = random_shear(dice, 12)
            move = (dice.randint(-10 ** 6, 10 ** 6), dice.randint(-10 ** 6, 10 ** 6))
            led = [tuple(sorted(sheared(dot, first, second, move) for dot in edge)) for edge in (own, other)]
            wanted = tuple(tuple(own_arm(sheared(pair, first, second)) for pair in half)
                           for half in ((one, one_far), (two, two_far)))
            self.assertEqual(told(halves(*led)), told(wanted))

    def test_no_halves(self):
        dice = random.Random(83)
        seen = {"apart": 0, "one middle": 0, "one": 0}
        while min(seen.values()) < 20:
            own, other = random_edge(dice, 2, 3), random_edge(dice, 2, 3)
            if own_cross(own, other) and twice(own) != twice(other):
                continue
            seen["one" if own == other else "one middle" if twice(own) == twice(other) else "apart"] += 1
            with self.assertRaises(CanNot):
                halves(own, other)


if __name__ == "__main__":
    unittest.main()
