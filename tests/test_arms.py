"""[7]: arms, neighbours, elders, ways."""

import random
import unittest

from middledots import arms
from middledots.errors import CanNot, TooMany
from tests.helpers import (next_arm, own_arm, own_arms, own_elders, own_length, own_neighbours, own_way, random_arm, random_shear,
                           sheared, square, told)

SMALL = own_arms(7)
ROOTS = {(1, 0): (1, 0), (0, 1): (0, 1), (1, 1): (1, 1)}


def long_way(dice, most):
    """A WAY made step by step, no step back, its numbers by size at most most: now straight on, now to a side."""
    found = [(1, 0), next_arm((1, 0), (1, 2), dice.randint(-3, 3))]
    straight = 0
    while True:
        last, ahead = found[-2], found[-1]
        if straight == 0:
            straight, shift = dice.randint(1, 9), dice.choice((-2, -1, 1, 1, 2, 5))
        straight -= 1
        later = next_arm(ahead, last, shift)
        if max(abs(later[0]), abs(later[1])) > most:
            return found
        found.append(later)


class Neighbours(unittest.TestCase):
    def test_beside_the_words_of_the_document(self):
        for kind in SMALL:
            for arm in SMALL[kind]:
                near = own_neighbours(arm, 7)
                for other_kind in SMALL:
                    for other in SMALL[other_kind]:
                        self.assertIs(arms.are_neighbours(arm, other), other in near, (arm, other))
                for most in range(8):
                    wanted = [own for own in near if max(abs(own[0]), abs(own[1])) <= most]
                    self.assertEqual(told(arms.neighbours(arm, most)), told(wanted), (arm, most))

    def test_great_ones(self):
        dice = random.Random(61)
        for _ in range(150):
            arm = random_arm(dice, 10 ** dice.randint(1, 18))
            size = max(abs(arm[0]), abs(arm[1]))
            for most in (0, size - 1, size, 3 * size, 40 * size + 1):
                found = arms.neighbours(arm, most)
                self.assertEqual(found, sorted(set(found)))
                for own in found:
                    self.assertTrue(arms.are_neighbours(arm, own) and arms.are_neighbours(own, arm))
                    self.assertLessEqual(max(abs(own[0]), abs(own[1])), most)
                elder = arms.elder(arm)
                if elder is not None:
                    near = [next_arm(arm, elder, shift) for shift in range(-50, 51)]
                    wanted = [own for own in near if max(abs(own[0]), abs(own[1])) <= most]
                    self.assertEqual(found, sorted(wanted))

    def test_none_of_size_nought(self):
        for kind in SMALL:
            for arm in SMALL[kind]:
                self.assertEqual(arms.neighbours(arm, 0), [])

    def test_too_many(self):
        self.assertEqual(len(arms.neighbours((1, 0), 1000)), 1000)
        self.assertEqual(len(arms.neighbours((1, 1), 999)), 999)
        for arm, most in (((1, 0), 1001), ((1, 1), 1001), ((0, 1), 10 ** 18), ((3, 2), 10 ** 6), ((1, 0), 10 ** 30)):
            with self.assertRaises(TooMany):
                arms.neighbours(arm, most)
        for low in (900, 990, 1000, 1003):
            for arm in ((1, 0), (0, 1), (1, 1), (1, -1), (2, 1), (5, 3)):
                for most in (low, low + 1, 2 * low, 5 * low + 3):
                    near = [next_arm(arm, own_neighbours(arm, 9)[0], shift) for shift in range(-2100, 2101)]
                    many = sum(max(abs(x), abs(y)) <= most for x, y in near)
                    if many > 1000:
                        with self.assertRaises(TooMany):
                            arms.neighbours(arm, most)
                    else:
                        self.assertEqual(len(arms.neighbours(arm, most)), many)


class Elders(unittest.TestCase):
    def test_beside_own_walk(self):
        for kind in SMALL:
            for arm in SMALL[kind]:
                walk = own_elders(arm)
                wanted = walk[1] if square(arm) > 2 else None
                self.assertEqual(told(arms.elder(arm)), told(wanted))
                self.assertEqual(told(arms.root_of(arm)), told(ROOTS[kind]))
                self.assertEqual(told(arms.depth(arm)), told(len(walk) - 1))
        self.assertEqual([arms.elder(own) for own in ((1, 0), (0, 1), (1, 1), (1, -1))], [None] * 4)

    def test_great_ones_have_one_shorter_neighbour(self):
        dice = random.Random(62)
        for _ in range(300):
            arm = random_arm(dice, 10 ** dice.randint(1, 18))
            elder = arms.elder(arm)
            if elder is not None:
                self.assertTrue(arms.are_neighbours(arm, elder))
                for shift in range(-3, 4):
                    self.assertEqual(square(next_arm(arm, elder, shift)) < square(arm), shift == 0)
                self.assertEqual(arms.depth(arm), arms.depth(elder) + 1)
                self.assertEqual(arms.root_of(arm), arms.root_of(elder))


class Ways(unittest.TestCase):
    def check_way(self, wanted):
        arm, other, steps = wanted[0], wanted[-1], len(wanted) - 1
        self.assertEqual(told(arms.length(arm, other)), told(steps))
        self.assertEqual(told(arms.way(arm, other)), told(tuple(wanted)))
        for number in range(steps + 1):
            self.assertEqual(told(arms.at_step(arm, other, number)), told(wanted[number]))
        for number in (steps + 1, steps + 10 ** 19):
            with self.assertRaises(CanNot):
                arms.at_step(arm, other, number)

    def test_beside_own_walk(self):
        for kind in SMALL:
            for arm in SMALL[kind]:
                for other in SMALL[kind]:
                    self.check_way(own_way(arm, other))

    def test_long_ways_made_step_by_step(self):
        dice = random.Random(63)
        for _ in range(120):
            own = long_way(dice, 10 ** dice.randint(3, 18))
            first, second = random_shear(dice, 6)
            own = [own_arm(sheared(arm, first, second)) for arm in own]
            self.check_way(own)
            self.check_way(own[::-1])
            cut = dice.randrange(len(own))
            self.check_way(own[cut:])

    def test_unlike_kinds(self):
        for kind in SMALL:
            for other_kind in SMALL:
                if kind != other_kind:
                    for arm in SMALL[kind][:9]:
                        for other in SMALL[other_kind][:9]:
                            for call in ((arms.way, arm, other), (arms.length, arm, other), (arms.at_step, arm, other, 0)):
                                with self.assertRaises(CanNot):
                                    call[0](*call[1:])

    def test_great_lengths(self):
        for n in (1, 2, 7, 1000, 10 ** 9, 5 * 10 ** 17 - 1):
            arm = (2 * n + 1, 2 * n)
            self.assertEqual((arms.length(arm, (1, 0)), arms.length((1, 0), arm), arms.depth(arm)), (n, n, n))
            for number in {0, 1, n // 3, n - 1, n}:
                left = n - number
                self.assertEqual(arms.at_step(arm, (1, 0), number), (2 * left + 1, 2 * left))
                self.assertEqual(arms.at_step((1, 0), arm, number), (2 * number + 1, 2 * number))
            self.assertEqual(arms.length((2 * n + 1, -2 * n), arm), 2 * n)
            self.assertEqual(arms.at_step((2 * n + 1, -2 * n), arm, n), (1, 0))
            with self.assertRaises(CanNot):
                arms.at_step(arm, (1, 0), n + 1)

    def test_great_arms_told_from_both_ends(self):
        dice = random.Random(64)
        done = 0
        while done < 150:
            arm, other = random_arm(dice, 10 ** dice.randint(1, 18)), random_arm(dice, 10 ** dice.randint(1, 18))
            if arms.root_of(arm) != arms.root_of(other):
                continue
            done += 1
            steps = arms.length(arm, other)
            self.assertEqual(arms.length(other, arm), steps)
            self.assertLessEqual(abs(arms.depth(arm) - arms.depth(other)), steps)
            self.assertEqual((arms.at_step(arm, other, 0), arms.at_step(arm, other, steps)), (arm, other))
            spots = sorted({dice.randint(0, steps) for _ in range(8)})
            for number in spots:
                own = arms.at_step(arm, other, number)
                self.assertEqual(arms.at_step(other, arm, steps - number), own)
                self.assertEqual((arms.length(arm, own), arms.length(own, other)), (number, steps - number))
                if number < steps:
                    self.assertTrue(arms.are_neighbours(own, arms.at_step(arm, other, number + 1)))

    def test_sheared(self):
        dice = random.Random(65)
        for kind in SMALL:
            for _ in range(60):
                arm, other = dice.choice(SMALL[kind]), dice.choice(SMALL[kind])
                first, second = random_shear(dice, 8)
                led = [own_arm(sheared(own, first, second)) for own in own_way(arm, other)]
                self.assertEqual(arms.way(led[0], led[-1]), tuple(led))
                near = [own_arm(sheared(own, first, second)) for own in own_neighbours(arm, 9)]
                self.assertTrue(all(arms.are_neighbours(led[0], own) for own in near))

    def test_ways_from_one_arm_have_their_beginning_alone_in_common(self):
        dice = random.Random(66)
        for kind in SMALL:
            for _ in range(150):
                arm, one, two = (dice.choice(SMALL[kind]) for _ in range(3))
                first, second = arms.way(arm, one), arms.way(arm, two)
                many = 0
                while many < min(len(first), len(second)) and first[many] == second[many]:
                    many += 1
                self.assertEqual(set(first) & set(second), set(first[:many]))
                self.assertEqual(own_length(one, two), len(first) + len(second) - 2 * many)

    def test_too_many(self):
        for n in (1999, 1998):
            self.assertEqual(len(arms.way((2 * n + 1, 2 * n), (1, 0))), n + 1)
        for n in (2000, 2001, 10 ** 17):
            for arm, other in (((2 * n + 1, 2 * n), (1, 0)), ((1, 0), (2 * n + 1, 2 * n))):
                with self.assertRaises(TooMany):
                    arms.way(arm, other)
        self.assertEqual(len(arms.way((1999, -1998), (2001, 2000))), 2000)
        with self.assertRaises(TooMany):
            arms.way((2001, -2000), (2001, 2000))


if __name__ == "__main__":
    unittest.main()
