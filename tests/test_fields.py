"""[6]: fields, places in them, their dots, edges and middles."""

import random
import unittest

from middledots import fields
from middledots.errors import CanNot
from tests.helpers import (WRONG_FIELDS, deep_list, listed, made_fields, own_area, own_dots, own_field, own_middles, own_place,
                           own_rim_edges, random_round, random_shear, sheared, told)

FIELDS = made_fields(51, 160)


def random_dots(dice):
    """Dots in whatever order: often the way round them crosses or touches itself."""
    size = dice.randint(1, 3)
    return tuple((dice.randint(0, size), dice.randint(0, size)) for _ in range(dice.randint(0, 7)))


def with_straight_dots(dice, field):
    """The corners, with some of the dots on the sides between them."""
    dots = []
    for at in range(len(field)):
        (ax, ay), (bx, by) = field[at - 1], field[at]
        dots += [dot for dot in sorted(own_dots(field, "rim"), key=lambda dot: (dot[0] - ax) * (bx - ax) + (dot[1] - ay) * (by - ay))
                 if own_area(((ax, ay), (bx, by), dot)) == 0 and dice.random() < 0.5
                 and min(ax, bx) <= dot[0] <= max(ax, bx) and min(ay, by) <= dot[1] <= max(ay, by)
                 and dot not in ((ax, ay), (bx, by))]
        dots.append((bx, by))
    return tuple(dots)


class Numbers(unittest.TestCase):
    def test_of_each_kind_there_are_some(self):
        self.assertTrue(any(len(own_dots(field, "inner")) > 5 for field in FIELDS))
        dents = [field for field in FIELDS
                 if any(own_area((field[at - 2], field[at - 1], field[at])) < 0 for at in range(len(field)))]
        self.assertGreater(len(dents), 30)
        self.assertTrue(any(min(field)[0] > 9000 for field in FIELDS))

    def test_areas_dots_and_middles(self):
        for field in FIELDS:
            with self.subTest(field=field):
                area, inner, rim, middles = fields.numbers(field)
                self.assertEqual(told(fields.numbers(field)), told((own_area(field), len(own_dots(field, "inner")),
                                                                    len(own_dots(field, "rim")), len(own_middles(field)))))
                self.assertEqual((area, 3 * area), (2 * inner + rim - 2, 2 * middles + rim))

    def test_sets_beside_own_counting(self):
        for field in FIELDS:
            with self.subTest(field=field):
                inner, rim = own_dots(field, "inner"), own_dots(field, "rim")
                self.assertEqual(told(fields.inner_dots(field)), told(inner))
                self.assertEqual(told(fields.rim_dots(field)), told(rim))
                self.assertEqual(told(fields.all_dots(field)), told(tuple(sorted(inner + rim))))
                self.assertEqual(told(fields.rim_edges(field)), told(own_rim_edges(field)))
                self.assertEqual(told(fields.middles(field)), told(own_middles(field)))

    def test_places_beside_own_counting(self):
        for field in FIELDS[:60]:
            xs, ys = [x for x, _ in field], [y for _, y in field]
            for x in range(2 * min(xs) - 3, 2 * max(xs) + 4):
                for y in range(2 * min(ys) - 3, 2 * max(ys) + 4):
                    if x % 2 == 0 and y % 2 == 0:
                        dot = (x // 2, y // 2)
                        self.assertEqual(fields.place_of(field, dot), own_place(field, dot), (field, dot))
                    else:
                        wanted = own_place([(2 * own_x, 2 * own_y) for own_x, own_y in field], (x, y))
                        self.assertEqual(fields.half_place_of(field, (x, y)), wanted, (field, x, y))

    def test_a_field_of_sixty_dots_in_a_great_box(self):
        thin = ((-10 ** 6, 10 ** 6), (58 - 10 ** 6, 10 ** 6 - 59), (59 - 10 ** 6, 10 ** 6 - 60), (59 - 10 ** 6, 10 ** 6 - 59))
        self.assertTrue(fields.is_field(thin))
        self.assertEqual(fields.numbers(thin)[0], own_area(thin))
        self.assertEqual(fields.all_dots(thin), tuple(sorted(own_dots(thin, "inner") + own_dots(thin, "rim"))))
        self.assertEqual(fields.middles(thin), own_middles(thin))


class Things(unittest.TestCase):
    def test_fields_are(self):
        for field in FIELDS:
            self.assertIs(fields.is_field(field), True)
            self.assertIs(fields.is_field(listed(field, 1)), False)
            self.assertIs(fields.is_field(listed(field, 2)), False)
            self.assertIs(fields.is_field(field[:-1] + (list(field[-1]),)), False)

    def test_other_rounds_are_none(self):
        for field in FIELDS:
            turned = [field[at:] + field[:at] for at in range(1, len(field))]
            for own in turned + [field[::-1], field[:1] + field[:0:-1], field + field[:1], field[:2]]:
                self.assertIs(fields.is_field(own), False, own)

    def test_wrong_things_are_none(self):
        for at, thing in enumerate(WRONG_FIELDS + [deep_list(20), (FIELDS[0],), FIELDS[0] + (None,), "((0, 0), (1, 0))"]):
            self.assertIs(fields.is_field(thing), False, at)

    def test_random_rounds_beside_own_judging(self):
        dice = random.Random(52)
        seen = {True: 0, False: 0}
        for _ in range(4000):
            dots = random_dots(dice)
            wanted = own_field(dots) == dots
            seen[wanted] += 1
            self.assertIs(fields.is_field(dots), wanted, dots)
        self.assertGreater(seen[True], 40)

    def test_things_of_any_size(self):
        great = 10 ** 3000
        self.assertTrue(fields.is_field(((-great, 0), (great, 0), (0, great))))
        self.assertFalse(fields.is_field(((-great, 0), (great, 0), (great + 1, 0))))
        comb = tuple((x, 0 if x % 2 == 0 else -x - 5) for x in range(600)) + ((600, 7), (-1, 7))
        comb = comb[-1:] + comb[:-1]
        self.assertTrue(fields.is_field(comb))
        self.assertFalse(fields.is_field(comb[:-1] + ((600, -3),)))
        self.assertFalse(fields.is_field(((0, 0), (1, 0)) * 20000))


class Rounds(unittest.TestCase):
    def test_whichever_way_round_begun_anywhere(self):
        dice = random.Random(53)
        for field in FIELDS:
            for _ in range(4):
                dots = with_straight_dots(dice, field)
                at = dice.randrange(len(dots))
                dots = dots[at:] + dots[:at]
                for own in (dots, dots[::-1]):
                    self.assertEqual(told(fields.field_of(own)), told(field), own)

    def test_random_rounds_beside_own_judging(self):
        dice = random.Random(54)
        seen = {True: 0, False: 0}
        for count in range(4000):
            dots = random_dots(dice) if count % 2 else tuple(random_round(dice, dice.randint(3, 8), 3))
            wanted = own_field(dots)
            seen[wanted is None] += 1
            if wanted is None:
                with self.assertRaises(CanNot, msg=dots):
                    fields.field_of(dots)
            else:
                self.assertEqual(fields.field_of(dots), wanted)
                first, second = random_shear(dice, 3)
                self.assertIsNotNone(fields.field_of([sheared(dot, first, second, (5, -9)) for dot in dots]))
        self.assertGreater(min(seen.values()), 300)

    def test_no_field(self):
        none = [(), ((0, 0),), ((0, 0), (1, 0)), ((0, 0), (1, 0), (2, 0)), ((0, 0), (2, 0), (1, 0)),
                ((0, 0), (1, 0), (0, 0)), ((0, 0), (0, 0), (0, 0)), ((0, 0), (1, 0), (1, 0), (0, 1)),
                ((0, 0), (1, 0), (2, 0), (3, 0), (1, 0)), ((0, 0), (4, 0), (2, 0), (2, 2)),
                ((0, 0), (4, 0), (4, 4), (2, 0), (0, 4)), ((0, 0), (2, 2), (2, 0), (0, 2)),
                ((0, 0), (1, 0), (2, 0), (2, 2), (1, 0), (0, 2)), ((0, 0), (2, 0), (3, 0), (2, 0), (0, 2))]
        for dots in none:
            with self.subTest(dots=dots), self.assertRaises(CanNot):
                fields.field_of(dots)


if __name__ == "__main__":
    unittest.main()
