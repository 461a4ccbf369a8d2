"""[21]: SHEARS, what they lead where, and FIELDS that are alike."""

import random
import unittest
from fractions import Fraction

from middledots import alike
from middledots.cuts import is_cut
from middledots.errors import CanNot, Unfit
from middledots.fewest import fewest
from middledots.fields import numbers
from middledots.turns import turns
from tests.cutting import middle, own_completed, own_cuts, own_lots, own_net, sheared_edges, sheared_field, small_fields, with_bools
from tests.helpers import ELL, made_fields, own_edges_in, own_field, own_middles, random_edge, random_shear, told

FIELDS = made_fields(461, 60)
SMALL = small_fields(462, 25, 150)
SAME = ((1, 0), (0, 1), (0, 0))


def cross(one, two):
    return one[0] * two[1] - one[1] * two[0]


def drawn_shear(dice):
    """A SHEAR, mirroring ones too, great ones as far as they are let."""
    first, second = (20, 0), (0, 21)
    while max(map(abs, first + second)) > 20:
        first, second = random_shear(dice, dice.choice([0, 1, 3, 5, 12]))
    if dice.random() < 0.5:
        first = (-first[0], -first[1])
    return (first, second, (dice.randint(-20, 20), dice.randint(-20, 20)))


def own_led(shear, point):
    """Where shear leads the point, number by number."""
    (a, b), (c, d), (e, f) = shear
    x, y = point
    return (x * a + y * c + e, x * b + y * d + f)


def own_all_alike(field, other):
    """All SHEARS that lead field to other, ascending: three corners to any three, solved by fractions."""
    found = set()
    for goals in [(other[at], other[(at + step) % len(other)], other[(at + 2 * step) % len(other)]) for at in range(len(other)) for step in (1, -1)]:
        (ax, ay), (bx, by), (cx, cy) = field[:3]
        det = Fraction((bx - ax) * (cy - ay) - (by - ay) * (cx - ax))
        rows = []
        for at in (0, 1):
            p, q, r = (goal[at] for goal in goals)
            # Of p = m ax + n ay + k, and likewise for the others.
            m = ((q - p) * (cy - ay) - (r - p) * (by - ay)) / det
            n = ((r - p) * (bx - ax) - (q - p) * (cx - ax)) / det
            rows.append((m, n, p - m * ax - n * ay))
        numbers_told = [number for row in rows for number in row]
        if all(number.denominator == 1 for number in numbers_told):
            shear = tuple((int(rows[0][at]), int(rows[1][at])) for at in range(3))
            if abs(cross(shear[0], shear[1])) == 1 and own_field([own_led(shear, dot) for dot in field]) == other:
                found.add(shear)
    return tuple(sorted(found))


class Led(unittest.TestCase):
    def test_dots_and_middles(self):
        dice = random.Random(463)
        for _ in range(500):
            shear, dot = drawn_shear(dice), (dice.randint(-10 ** 6, 10 ** 6), dice.randint(-99, 99))
            self.assertEqual(told(alike.sheared_dot(shear, dot)), told(own_led(shear, dot)))
            self.assertEqual(alike.sheared_dot([list(pair) for pair in shear], list(dot)), own_led(shear, dot))
            low, high = edge = random_edge(dice, 50, 9)
            (x, y), (far_x, far_y) = own_led(shear, low), own_led(shear, high)
            self.assertEqual(told(alike.sheared_middle(shear, middle(edge))), told((x + far_x, y + far_y)))

    def test_edges(self):
        dice = random.Random(464)
        for _ in range(200):
            shear, edges = drawn_shear(dice), [random_edge(dice, 5, 4) for _ in range(dice.randint(0, 8))]
            edges += edges[:dice.randint(0, 3)]
            dice.shuffle(edges)
            wanted = tuple(sorted({tuple(sorted((own_led(shear, low), own_led(shear, high)))) for low, high in edges}))
            self.assertEqual(told(alike.sheared_edges(shear, edges)), told(wanted))
            self.assertEqual(told(alike.sheared_edges(shear, tuple(edges))), told(wanted))
        self.assertEqual(told(alike.sheared_edges(SAME, ())), told(()))

    def test_fields(self):
        dice = random.Random(465)
        for field in FIELDS:
            for _ in range(4):
                shear = drawn_shear(dice)
                wanted = own_field([own_led(shear, dot) for dot in field])
                self.assertEqual(told(alike.sheared_field(shear, field)), told(wanted))
                self.assertEqual(told(alike.sheared_field(list(shear), list(field))), told(wanted))
                self.assertEqual(numbers(wanted), numbers(field))

    def test_what_is_led_there_and_back(self):
        dice = random.Random(466)
        for field in SMALL:
            shear = drawn_shear(dice)
            back = alike.back_shear(shear)
            far = alike.sheared_field(shear, field)
            self.assertEqual(alike.sheared_field(back, far), field)
            self.assertEqual(alike.sheared_edges(shear, own_edges_in(field)), own_edges_in(far))
            self.assertEqual(tuple(sorted(alike.sheared_middle(shear, spot) for spot in own_lots(field))), own_middles(far))
            self.assertEqual(tuple(alike.sheared_middle(back, alike.sheared_middle(shear, spot)) for spot in own_lots(field)), own_middles(field))
            cut, other = dice.choice(own_cuts(field)), own_completed(field)
            one, two = alike.sheared_edges(shear, cut), alike.sheared_edges(shear, other)
            self.assertTrue(is_cut(far, one))
            self.assertEqual(alike.sheared_edges(back, one), cut)
            self.assertEqual(turns(far, one), tuple(sorted(alike.sheared_middle(shear, spot) for spot in own_net(field)[cut])))
            self.assertEqual(fewest(far, one, two), fewest(field, cut, other))


class Shears(unittest.TestCase):
    def test_back(self):
        dice = random.Random(467)
        for _ in range(300):
            shear = drawn_shear(dice)
            back = alike.back_shear(shear)
            self.assertIs(alike.is_shear(back), True)
            for dot in ((0, 0), (1, 0), (0, 1), (-7, 12)):
                self.assertEqual(own_led(back, own_led(shear, dot)), dot)
                self.assertEqual(own_led(shear, own_led(back, dot)), dot)
            self.assertEqual(told(alike.back_shear(back)), told(shear))
            self.assertEqual(told(alike.both_shears(shear, back)), told(SAME))
            self.assertEqual(told(alike.both_shears(list(back), [list(pair) for pair in shear])), told(SAME))

    def test_both(self):
        dice = random.Random(468)
        for _ in range(300):
            one, two, three = drawn_shear(dice), drawn_shear(dice), drawn_shear(dice)
            both = alike.both_shears(one, two)
            self.assertIs(alike.is_shear(both), True)
            for dot in ((0, 0), (1, 0), (0, 1), (5, -3)):
                self.assertEqual(own_led(both, dot), own_led(two, own_led(one, dot)))
            self.assertEqual(alike.both_shears(both, three), alike.both_shears(one, alike.both_shears(two, three)))
            self.assertIs(alike.keeps_turn(both), alike.keeps_turn(one) == alike.keeps_turn(two))

    def test_keeps_turn(self):
        dice = random.Random(469)
        seen = {True: 0, False: 0}
        for _ in range(200):
            shear = drawn_shear(dice)
            keeps = cross(own_led((shear[0], shear[1], (0, 0)), (1, 0)), own_led((shear[0], shear[1], (0, 0)), (0, 1))) > 0
            seen[keeps] += 1
            self.assertIs(alike.keeps_turn(shear), keeps)
        self.assertGreater(min(seen.values()), 50)

    def test_what_is_a_shear(self):
        dice = random.Random(470)
        for _ in range(100):
            first, second, move = shear = drawn_shear(dice)
            self.assertIs(alike.is_shear(shear), True)
            for thing in (list(shear), (list(first), second, move), (first, second, list(move)), shear[:2], shear + (move,), (first, first, move),
                          (first, (second[0] * 2, second[1] * 2), move), (first, (-first[0], -first[1]), move), (first, second, None), (first, None, move),
                          (first, second, 0), (first, second, (1, True)), (first, second, (1, 2, 3)), (first, second, (1.0, 2)), None, True, 5, "shear", (),
                          ((0, 0), (0, 0), (0, 0)), (shear,), (first, second, ("1", 2))):
                self.assertIs(alike.is_shear(thing), False, thing)
            if told(with_bools(shear)) != told(shear):
                self.assertIs(alike.is_shear(with_bools(shear)), False)
        for first in range(-3, 4):
            for second in range(-3, 4):
                self.assertIs(alike.is_shear(((first, 1), (1, second), (9, 9))), first * second in (0, 2))


class Alike(unittest.TestCase):
    def check_pair(self, field, other):
        wanted = own_all_alike(field, other)
        self.assertEqual(told(alike.all_alike(field, other)), told(wanted))
        self.assertEqual(alike.all_alike(list(field), [list(dot) for dot in other]), wanted)
        if wanted:
            self.assertIn(alike.alike(field, other), wanted)
            self.assertIs(alike.is_alike_by(field, other, alike.alike(field, other)), True)
        else:
            with self.assertRaises(CanNot):
                alike.alike(field, other)
        return wanted

    def test_those_that_shears_lead_there(self):
        dice = random.Random(471)
        for field in FIELDS:
            shear = drawn_shear(dice)
            other = sheared_field(field, shear)
            wanted = self.check_pair(field, other)
            self.assertIn(shear, wanted)
            self.assertEqual(len(wanted), len(alike.all_alike(field, field)))
            self.assertLessEqual(len(wanted), 2 * len(field))
            for own in wanted:
                self.assertIs(alike.is_alike_by(field, other, own), True)
                self.assertIs(alike.is_alike_by(other, field, alike.back_shear(own)), True)

    def test_those_that_are_not(self):
        dice = random.Random(472)
        some = FIELDS[:12] + dice.sample(FIELDS, 12)
        seen = [0, 0]
        for field in some:
            for other in some:
                seen[self.check_pair(field, other) == ()] += 1
        self.assertGreater(min(seen), 20)

    def test_with_like_numbers_they_may_be_unlike(self):
        for field, other in ((((0, 0), (2, 0), (2, 1), (0, 1)), ((0, 0), (3, 0), (1, 1), (0, 1))), (((0, 0), (5, 1), (0, 1)), ((0, 0), (5, 2), (0, 1))),
                             (((0, 0), (5, 0), (0, 1)), ((0, 0), (5, 2), (0, 1))), (ELL, own_field([(2 - x, y) for x, y in ELL]))):
            self.check_pair(own_field(field), own_field(other))
        self.assertEqual(self.check_pair(((0, 0), (2, 0), (2, 1), (0, 1)), ((0, 0), (3, 0), (1, 1), (0, 1))), ())

    def test_how_many_lead_it_to_itself(self):
        hexagon = own_field(((1, 0), (2, 0), (2, 1), (1, 2), (0, 2), (0, 1)))
        for field, many in ((((0, 0), (1, 0), (0, 1)), 6), (((0, 0), (3, 0), (0, 3)), 6), (((0, 0), (2, 0), (2, 2), (0, 2)), 8), (hexagon, 12),
                            (((0, 0), (3, 0), (3, 2), (0, 2)), 4), (((0, 0), (3, 0), (2, 1), (0, 1)), 2), (ELL, 2), (((0, 0), (5, 2), (2, 1)), 6),
                            (((0, 0), (3, 0), (1, 1), (0, 5)), 1)):
            self.assertEqual(len(self.check_pair(field, field)), many)
            self.assertIn(SAME, alike.all_alike(field, field))

    def test_bent_ones(self):
        dice = random.Random(473)
        for field in FIELDS:
            first, second, move = shear = drawn_shear(dice)
            other = sheared_field(field, shear)
            wanted = own_all_alike(field, other)
            for thing in ((second, first, move), (first, second, (move[0] + 1, move[1])), (first, second, (move[0], move[1] - 1)),
                          ((first[0] + second[0], first[1] + second[1]), second, move), ((-first[0], -first[1]), second, move), SAME, drawn_shear(dice),
                          (first, (second[0] * 3, second[1] * 3), move), (first, first, move)):
                self.assertIs(alike.is_alike_by(field, other, thing), thing in wanted)
            for thing in (list(shear), (list(first), second, move), shear[:2], None, True, 5, "shear", wanted, (shear,), (first, second, None)):
                self.assertIs(alike.is_alike_by(field, other, thing), False)
            if told(with_bools(shear)) != told(shear):
                self.assertIs(alike.is_alike_by(field, other, with_bools(shear)), False)

    def test_many_corners(self):
        # One above the other, in two columns of dents: 58 corners.
        dots = [(0, 0)] + [(at % 2 + 4, at) for at in range(29)] + [(at % 2, at) for at in range(28, 0, -1)]
        field = own_field(dots)
        self.assertGreater(len(field), 50)
        wanted = self.check_pair(field, sheared_field(field, ((1, 0), (3, 1), (-5, 5))))
        self.assertGreater(len(wanted), 0)


class Errors(unittest.TestCase):
    shears = [None, True, 5, "ab", (), ((1, 0), (0, 1)), ((1, 0), (0, 1), None), ((2, 0), (0, 1), (0, 0)), ((1, 0), (0, True), (0, 0)), SAME + SAME,
              ((1, 0), (1, 0), (0, 0)), ((1, 0), (0, 1), (0, 0, 0)), ((1, 0), (0, 1.0), (0, 0))]
    fields = [None, True, 5, "ab", (), ELL[::-1], ELL[1:] + ELL[:1], ELL[:2], (ELL,), ((0, 0), (1, 0), (2, 0), (0, 1)), ((0, 0), (1, 0), (0, True))]

    def check(self, function, *args):
        with self.assertRaises(Unfit):
            function(*args)

    def test_no_shear(self):
        for shear in self.shears:
            for function, good in ((alike.sheared_dot, (1, 1)), (alike.sheared_middle, (1, 1)), (alike.sheared_edges, ()), (alike.sheared_field, ELL)):
                self.check(function, shear, good)
                self.check(function, shear, None)
            for function in (alike.back_shear, alike.keeps_turn):
                self.check(function, shear)
            self.check(alike.both_shears, shear, SAME)
            self.check(alike.both_shears, SAME, shear)

    def test_nothing_to_lead(self):
        for dot in (None, 5, (1,), (1, True), (1, 2, 3), "ab", ((1, 2),), (1.0, 2)):
            self.check(alike.sheared_dot, SAME, dot)
            self.check(alike.sheared_middle, SAME, dot)
        for spot in ((0, 0), (2, 4), (-2, 0)):
            self.check(alike.sheared_middle, SAME, spot)
        for edges in (None, 5, ((0, 0), (1, 0)), (((1, 0), (0, 0)),), (((0, 0), (2, 0)),), (None,), "ab", (((0, 0), (1, 0)), 5), (((0, 0), (0, 0)),)):
            self.check(alike.sheared_edges, SAME, edges)
        for field in self.fields:
            self.check(alike.sheared_field, SAME, field)

    def test_no_fields(self):
        for field in self.fields:
            for function in (alike.alike, alike.all_alike, lambda one, two: alike.is_alike_by(one, two, SAME), lambda one, two: alike.is_alike_by(one, two, 5)):
                self.check(function, field, ELL)
                self.check(function, ELL, field)
                self.check(function, field, field)


if __name__ == "__main__":
    unittest.main()
