"""[11]: all CUTS that have some EDGES, or are made of some, and the numbers that tell CUTS by choices."""

import random
import unittest
from itertools import combinations
from math import prod

from middledots import allcuts
from middledots.errors import CanNot, Crossing, TooMany, Unfit
from tests.cutting import (drawn_shear, middle, own_crossed, own_cuts, own_free, own_lots, own_rim, own_search, own_with,
                           sheared_edges, sheared_field, small_fields, some_of)
from tests.helpers import ELL, own_cross, told

FIELDS = small_fields(221, 40, 400)
BLOCK, UP, DOWN, WALL = ((0, 0), (2, 0), (2, 1), (0, 1)), ((0, 0), (1, 1)), ((0, 1), (1, 0)), ((1, 0), (1, 1))


def walled(parts):
    """A strip parted by walls into strips with so many below and above; the FIELD and the walls."""
    below = above = 0
    walls = []
    for more_below, more_above in parts:
        walls.append(tuple(sorted([(below, 0), (above, 1)])))
        below, above = below + more_below, above + more_above
    return ((0, 0), (below, 0), (above, 1), (0, 1)), tuple(walls[1:])


# Multiplied, 2 * 2 * 2 * 2 * 5 * 5 * 5 CUTS have these walls, and 3 * 23 * 29.
JUST_ENOUGH = walled([(1, 1)] * 4 + [(4, 1)] * 3)
ONE_MORE = walled([(2, 1), (22, 1), (28, 1)])


def own_digits(field, edges, number):
    """The CUT that number tells, MIDDLE by MIDDLE."""
    chosen = []
    for spot in own_lots(field):
        left = own_free(field, list(edges) + chosen)[spot]
        number, at = divmod(number, len(left))
        chosen.append(left[at])
    return tuple(sorted(chosen))


def own_number(field, edges, cut):
    """The least number that tells cut so."""
    chosen, number, weight = [], 0, 1
    for spot in own_lots(field):
        left = own_free(field, list(edges) + chosen)[spot]
        chosen.append(next(edge for edge in cut if middle(edge) == spot))
        number, weight = number + weight * left.index(chosen[-1]), weight * len(left)
    return number


def standing(dice, many):
    """Triples (field, cut, edges): some EDGES of a CUT, rim EDGES let, some twice, in whatever order."""
    found = []
    for field in FIELDS:
        for at in range(many):
            cut = dice.choice(own_cuts(field))
            edges = some_of(dice, field, cut)
            found.append((field, cut, edges[:at] if at < 3 else edges))
    return found


class AllCuts(unittest.TestCase):
    def test_with_no_edges(self):
        for field in FIELDS:
            self.assertEqual(told(allcuts.all_cuts(field, ())), told(own_cuts(field)))

    def test_with_edges_beside_own_search(self):
        for field, _, edges in standing(random.Random(222), 8):
            with self.subTest(field=field, edges=edges):
                wanted = own_with(field, edges)
                self.assertEqual(told(allcuts.all_cuts(field, edges)), told(wanted))
                self.assertEqual({edge for lot in own_free(field, edges).values() for edge in lot},
                                 {edge for cut in wanted for edge in cut})

    def test_rim_edges_alone(self):
        for field in FIELDS:
            self.assertEqual(allcuts.all_cuts(field, sorted(own_rim(field)) * 2), own_cuts(field))

    def test_a_cut_whole(self):
        dice = random.Random(223)
        for field in FIELDS:
            cut = dice.choice(own_cuts(field))
            self.assertEqual(told(allcuts.all_cuts(field, cut[::-1])), told([cut]))

    def test_too_many_from_2001_on(self):
        field, walls = JUST_ENOUGH
        found = allcuts.all_cuts(field, walls)
        self.assertEqual(len(found), 2000)
        self.assertEqual(found, own_search(field, list(own_free(field, walls).values()), 2000))
        with self.assertRaises(TooMany):
            allcuts.all_cuts(*ONE_MORE)
        for great in (((0, 0), (9, 0), (9, 5), (0, 5)), ((0, 0), (29, 0), (29, 1), (0, 1)), ((0, 0), (4, 0), (4, 4), (0, 4))):
            with self.assertRaises(TooMany):
                allcuts.all_cuts(great, ())

    def test_many_of_a_greater_field(self):
        field = ((0, 0), (4, 0), (4, 2), (0, 2))
        wanted = own_search(field, list(own_lots(field).values()), 10 ** 5)
        seen = {True: 0, False: 0}
        for edges in [()] + [(edge,) for lot in own_lots(field).values() for edge in lot]:
            some = [cut for cut in wanted if set(edges) <= set(cut)]
            seen[len(some) > 2000] += 1
            if len(some) > 2000:
                with self.assertRaises(TooMany):
                    allcuts.all_cuts(field, edges)
            else:
                self.assertEqual(allcuts.all_cuts(field, edges), some)
        self.assertGreater(min(seen.values()), 10)


class OutOf(unittest.TestCase):
    def own_out_of(self, field, edges):
        return [cut for cut in own_cuts(field) if set(cut) <= set(edges)]

    def test_beside_own_search(self):
        dice = random.Random(224)
        seen = {True: 0, False: 0}
        for field in FIELDS:
            everything = [edge for lot in own_lots(field).values() for edge in lot]
            for share in (1, 0.9, 0.8, 0.6, 0.3):
                edges = [edge for edge in everything if dice.random() < share]
                edges += dice.sample(edges, min(2, len(edges))) + dice.sample(sorted(own_rim(field)), dice.randint(0, 3))
                dice.shuffle(edges)
                wanted = self.own_out_of(field, edges)
                seen[wanted == []] += 1
                self.assertEqual(told(allcuts.cuts_out_of(field, edges)), told(wanted))
        self.assertGreater(min(seen.values()), 30)

    def test_of_two_and_three_cuts(self):
        dice = random.Random(225)
        for field in FIELDS:
            for many in (1, 2, 3):
                cuts = [dice.choice(own_cuts(field)) for _ in range(many)]
                edges = [edge for cut in cuts for edge in cut]
                self.assertEqual(told(allcuts.cuts_out_of(field, tuple(edges))), told(self.own_out_of(field, edges)))

    def test_of_nothing(self):
        for field in FIELDS:
            self.assertEqual(allcuts.cuts_out_of(field, sorted(own_rim(field))), [] if own_lots(field) else [()])
        self.assertEqual(told(allcuts.cuts_out_of(((0, 0), (1, 0), (0, 1)), ())), told([()]))

    def test_too_many_from_2001_on(self):
        for (field, walls), wanted in ((JUST_ENOUGH, 2000), (ONE_MORE, None)):
            edges = [edge for lot in own_free(field, walls).values() for edge in lot]
            if wanted is None:
                with self.assertRaises(TooMany):
                    allcuts.cuts_out_of(field, edges)
            else:
                self.assertEqual(len(allcuts.cuts_out_of(field, edges)), wanted)
        great = ((0, 0), (6, 0), (6, 5), (0, 5))
        with self.assertRaises(TooMany):
            allcuts.cuts_out_of(great, [edge for lot in own_lots(great).values() for edge in lot])

    def test_none_in_a_great_field(self):
        field = ((0, 0), (6, 0), (6, 5), (0, 5))
        lots = own_lots(field)
        # Of the EDGES of one MIDDLE none is left; or at two MIDDLES two that cross alone.
        for spot in (list(lots)[0], list(lots)[40], list(lots)[-1]):
            self.assertEqual(allcuts.cuts_out_of(field, [edge for own in lots if own != spot for edge in lots[own]]), [])
        edge, other = ((2, 2), (3, 4)), ((2, 3), (3, 2))
        left = [own for spot in lots for own in lots[spot]
                if own in (edge, other) or spot not in (middle(edge), middle(other))]
        self.assertEqual(allcuts.cuts_out_of(field, left), [])

    def test_crossing_edges_raise_nothing(self):
        self.assertEqual(allcuts.cuts_out_of(BLOCK, (UP, DOWN)), [])


class Beside(unittest.TestCase):
    def test_beside_own_reckoning(self):
        for field, _, edges in standing(random.Random(226), 8):
            wanted = tuple(len(lot) for lot in own_free(field, edges).values())
            self.assertEqual(told(allcuts.many_beside(field, edges)), told(wanted))
            apart = not any(own_crossed(field)[edge] & set(far) for spot, lot in own_free(field, edges).items() for edge in lot
                            for other, far in own_free(field, edges).items() if other != spot)
            many = len(own_with(field, edges))
            self.assertLessEqual(many, prod(wanted))
            if apart:
                self.assertEqual(many, prod(wanted))


class Digits(unittest.TestCase):
    def test_beside_own_choosing(self):
        dice = random.Random(227)
        for field, _, edges in standing(dice, 4):
            for number in (0, 1, 2, dice.randrange(100), dice.randrange(10 ** 6), dice.randrange(10 ** 18), 10 ** 400 + 7):
                wanted = own_digits(field, edges, number)
                self.assertEqual(told(allcuts.cut_by_digits(field, edges, number)), told(wanted))
                self.assertIn(wanted, own_with(field, edges))

    def test_there_and_back(self):
        for field, _, edges in standing(random.Random(228), 2):
            cuts = own_with(field, edges)[:60]
            numbers = [allcuts.digits_of(field, edges, cut) for cut in cuts]
            self.assertEqual(numbers, [own_number(field, edges, cut) for cut in cuts])
            self.assertEqual([allcuts.cut_by_digits(field, edges, number) for number in numbers], cuts)
            for cut, number in zip(cuts, numbers):
                # The least one: a lesser number tells another CUT.
                for less in range(max(0, number - 3), number):
                    self.assertNotEqual(allcuts.cut_by_digits(field, edges, less), cut)

    def test_each_number_tells_a_cut(self):
        field = ((0, 0), (3, 0), (3, 1), (0, 1))
        self.assertEqual(sorted({allcuts.cut_by_digits(field, (), number) for number in range(200)}), own_cuts(field))

    def test_great_fields_and_numbers(self):
        dice = random.Random(229)
        for field in (((0, 0), (7, 0), (7, 6), (0, 6)), ((0, 0), (29, 0), (29, 1), (0, 1)), ((0, 0), (9, 0), (0, 9))):
            for _ in range(4):
                cut = allcuts.cut_by_digits(field, (), dice.randrange(10 ** 200))
                self.assertEqual(len(cut), len(own_lots(field)))
                number = allcuts.digits_of(field, cut[:5], cut)
                self.assertEqual(allcuts.cut_by_digits(field, cut[4::-1], number), cut)
                self.assertEqual(allcuts.cut_by_digits(field, (), allcuts.digits_of(field, (), cut)), cut)

    def test_cannot(self):
        dice = random.Random(230)
        seen = {True: 0, False: 0}
        for field, cut, edges in standing(dice, 6):
            other = dice.choice(own_cuts(field))
            has = other in own_with(field, edges)
            seen[has] += 1
            if has:
                self.assertEqual(allcuts.digits_of(field, edges, other), own_number(field, edges, other))
            else:
                with self.assertRaises(CanNot):
                    allcuts.digits_of(field, edges, other)
        self.assertGreater(min(seen.values()), 50)

    def test_one_triangle(self):
        field = ((0, 0), (1, 0), (0, 1))
        self.assertEqual(told(allcuts.cut_by_digits(field, (), 10 ** 30)), told(()))
        self.assertEqual(told(allcuts.digits_of(field, (((0, 0), (1, 0)),), ())), told(0))
        self.assertEqual(told(allcuts.many_beside(field, ())), told(()))


class Errors(unittest.TestCase):
    def calls(self, field, edges, cut):
        return [lambda: allcuts.all_cuts(field, edges), lambda: allcuts.many_beside(field, edges),
                lambda: allcuts.cut_by_digits(field, edges, 5), lambda: allcuts.digits_of(field, edges, cut)]

    def test_crossing_told_by_the_least_pair(self):
        dice = random.Random(231)
        seen = 0
        for field, cut, edges in standing(dice, 5):
            other = dice.choice(own_cuts(field))
            mixed = list(edges) + list(some_of(dice, field, other))
            dice.shuffle(mixed)
            pairs = [pair for pair in combinations(sorted(set(mixed)), 2) if own_cross(*pair)]
            for call in self.calls(field, mixed, cut) if pairs else []:
                seen += 1
                with self.assertRaises(Crossing) as caught:
                    call()
                self.assertEqual(told((caught.exception.edge, caught.exception.other)), told(pairs[0]))
        self.assertGreater(seen, 100)

    def test_unfit_ahead_of_crossing(self):
        cut = own_cuts(BLOCK)[0]
        for edges, own in (((UP, DOWN, ((0, 0), (3, 1))), cut), ((UP, DOWN), cut[1:]), ((UP, DOWN), None), (None, cut)):
            with self.assertRaises(Unfit):
                allcuts.digits_of(BLOCK, edges, own)
        for number in (-1, True, "5", None, 2.0):
            with self.assertRaises(Unfit):
                allcuts.cut_by_digits(BLOCK, (UP, DOWN), number)
        for function in (allcuts.all_cuts, allcuts.cuts_out_of, allcuts.many_beside):
            with self.assertRaises(Unfit):
                function(ELL, (((0, 0), (1, 1)), ((0, 1), (1, 0)), ((1, 2), (2, 1))))

    def test_crossing_ahead_of_cannot(self):
        long, slope = ((0, 0), (2, 1)), ((0, 1), (2, 0))
        with self.assertRaises(Crossing):
            allcuts.digits_of(BLOCK, (long, WALL), next(own for own in own_cuts(BLOCK) if slope in own))

    def test_crossing_ahead_of_too_many(self):
        with self.assertRaises(Crossing):
            allcuts.all_cuts(((0, 0), (6, 0), (6, 5), (0, 5)), (UP, DOWN))


class Guarantees(unittest.TestCase):
    def test_sheared(self):
        dice = random.Random(232)
        for field, _, edges in standing(dice, 1):
            shear = drawn_shear(dice)
            far = allcuts.all_cuts(sheared_field(field, shear), sheared_edges(edges, shear))
            self.assertEqual(far, sorted(sheared_edges(cut, shear) for cut in own_with(field, edges)))

    def test_parts_beside_a_wall_multiply(self):
        for parts in ([(1, 1), (2, 1)], [(2, 2), (1, 2)], [(3, 1), (1, 1), (1, 2)], [(2, 2), (2, 2)]):
            field, walls = walled(parts)
            many = prod(len(own_cuts(((0, 0), (below, 0), (above, 1), (0, 1)))) for below, above in parts)
            self.assertEqual(len(allcuts.all_cuts(field, walls)), many)


if __name__ == "__main__":
    unittest.main()
