"""[15]: the CUT in the middle of an odd number of CUTS, and the CUTS between two."""

import random
import unittest
from itertools import combinations

from middledots import middles
from middledots.errors import TooMany, Unfit
from tests.cutting import (arm, bent, drawn_plan, drawn_shear, middle, own_completed, own_cuts, own_lots, own_steps, own_turns,
                           sheared_edges, sheared_field, small_fields)
from tests.helpers import ELL, made_fields, own_length, own_way, told

FIELDS = small_fields(301, 36, 300)
GREAT = [field for field in made_fields(302, 40, 6, 60) if 20 < len(own_lots(field)) < 60][:6]


def drawn_cuts(dice, many):
    """Pairs (field, cuts): 1, 3, 5, 7, 9 CUTS of each FIELD, equal ones too."""
    found = []
    for field in FIELDS:
        for _ in range(many):
            cuts = [dice.choice(own_cuts(field)) for _ in range(dice.choice([1, 3, 3, 5, 7, 9]))]
            if dice.random() < 0.3:
                cuts = [dice.choice(cuts) for _ in cuts]
            found.append((field, tuple(cuts)))
    return found


def own_sum(field, cut, cuts):
    return sum(own_steps(field, own)[cut] for own in cuts)


def own_middle(field, cuts):
    """The only CUT with the least sum of TURNS to cuts."""
    sums = sorted((own_sum(field, cut, cuts), cut) for cut in own_cuts(field))
    assert len(sums) == 1 or sums[0][0] < sums[1][0]
    return sums[0][1]


def own_between(field, cut, other):
    near, far = own_steps(field, cut), own_steps(field, other)
    return [own for own in own_cuts(field) if near[own] + far[own] == near[other]]


class Middle(unittest.TestCase):
    def test_beside_the_least_sum(self):
        for field, cuts in drawn_cuts(random.Random(303), 12):
            with self.subTest(field=field, cuts=cuts):
                wanted = own_middle(field, cuts)
                self.assertEqual(told(middles.median_cut(field, cuts)), told(wanted))
                self.assertIs(middles.is_middle(field, cuts, wanted), True)
                self.assertEqual(told(middles.median_cut(field, [[list(edge) for edge in cut] for cut in cuts])), told(wanted))

    def test_whatever_their_order(self):
        dice = random.Random(304)
        for field, cuts in drawn_cuts(dice, 5):
            order = dice.sample(cuts, len(cuts))
            self.assertEqual(middles.median_cut(field, order), middles.median_cut(field, cuts))
            self.assertEqual(middles.majority(field, order), middles.majority(field, cuts))

    def test_more_than_half_of_them_one(self):
        dice = random.Random(305)
        for field, cuts in drawn_cuts(dice, 5):
            own = dice.choice(own_cuts(field))
            more = list(cuts[:len(cuts) // 2]) + [own] * (len(cuts) // 2 + 1)
            dice.shuffle(more)
            self.assertEqual(middles.median_cut(field, more), own)

    def test_majority(self):
        for field, cuts in drawn_cuts(random.Random(306), 10):
            edges = sorted({edge for cut in cuts for edge in cut})
            wanted = tuple(edge for edge in edges if sum(edge in cut for cut in cuts) > len(cuts) / 2)
            self.assertEqual(told(middles.majority(field, cuts)), told(wanted))
            self.assertLessEqual(set(wanted), set(own_middle(field, cuts)))

    def test_an_edge_that_none_of_them_has(self):
        # At (3, 3) the ARM (1, 1) has three neighbours, from each of which it is on the WAY to both others.
        field = ((0, 1), (1, 0), (3, 2), (2, 3))
        seen = 0
        for cuts in combinations(own_cuts(field), 3):
            found = middles.median_cut(field, cuts)
            self.assertEqual(found, own_middle(field, cuts))
            seen += bool(set(found) - {edge for cut in cuts for edge in cut})
        self.assertGreater(seen, 0)

    def test_sum_to(self):
        dice = random.Random(307)
        for field, cuts in drawn_cuts(dice, 8):
            for own in [dice.choice(own_cuts(field)) for _ in range(3)]:
                self.assertEqual(told(middles.sum_to(field, own, cuts)), told(own_sum(field, own, cuts)))

    def test_is_middle_of_others(self):
        dice = random.Random(308)
        for field, cuts in drawn_cuts(dice, 3):
            wanted = own_middle(field, cuts)
            for thing in bent(dice, field, wanted) + [cuts, dice.choice(own_cuts(field)), own_cuts(field)]:
                if told(thing) != told(wanted):
                    self.assertIs(middles.is_middle(field, cuts, thing), False, thing)

    def test_great_fields(self):
        dice = random.Random(309)
        for field in GREAT:
            cuts = [drawn_plan(dice, field, own_completed(field), dice.randint(0, 25))[1][-1] for _ in range(9)]
            found = middles.median_cut(field, cuts)
            arms = {spot: [arm(edge) for cut in cuts for edge in cut if middle(edge) == spot] for spot in own_lots(field)}
            for edge in found:
                sums = sorted((sum(own_length(own, arm(far)) for own in arms[middle(edge)]), far) for far in own_lots(field)[middle(edge)])
                self.assertEqual(sums[0][1], edge)
            # By a TURN from it no CUT comes nearer to all of them.
            for spot in own_turns(field, found):
                far = drawn_turn(field, found, spot)
                self.assertGreater(middles.sum_to(field, far, cuts), middles.sum_to(field, found, cuts))


def drawn_turn(field, cut, spot):
    new = own_turns(field, cut)[spot]
    return tuple(sorted([new if middle(edge) == spot else edge for edge in cut]))


class Between(unittest.TestCase):
    def test_beside_all_cuts(self):
        dice = random.Random(310)
        for field in FIELDS:
            for _ in range(12):
                cut, other = dice.choice(own_cuts(field)), dice.choice(own_cuts(field))
                wanted = own_between(field, cut, other)
                self.assertEqual(told(middles.between(field, cut, other)), told(wanted))
                self.assertEqual(middles.between(field, other, cut), wanted)
                own = dice.choice(own_cuts(field))
                self.assertIs(middles.is_between(field, cut, other, own), own in wanted)
                self.assertTrue(all(middles.is_between(field, cut, other, far) is True for far in wanted[:10]))

    def test_the_farthest_apart(self):
        for field in FIELDS:
            cut = own_completed(field)
            steps = own_steps(field, cut)
            other = max(own_cuts(field), key=lambda own: (steps[own], own))
            self.assertEqual(middles.between(field, cut, other), own_between(field, cut, other))

    def test_each_arm_on_its_way(self):
        dice = random.Random(311)
        for field in FIELDS:
            cut, other = dice.choice(own_cuts(field)), dice.choice(own_cuts(field))
            ways = {middle(edge): own_way(arm(edge), arm(next(far for far in other if middle(far) == middle(edge)))) for edge in cut}
            wanted = [own for own in own_cuts(field) if all(arm(edge) in ways[middle(edge)] for edge in own)]
            self.assertEqual(middles.between(field, cut, other), wanted)

    def test_equal_cuts(self):
        for field in FIELDS:
            cut = own_completed(field)
            self.assertEqual(told(middles.between(field, cut, cut)), told([cut]))
            self.assertIs(middles.is_between(field, cut, cut, cut), True)

    def test_is_between_of_others(self):
        dice = random.Random(312)
        for field in FIELDS:
            cut, other = dice.choice(own_cuts(field)), dice.choice(own_cuts(field))
            for thing in bent(dice, field, cut) + [own_cuts(field), (cut, other)]:
                self.assertIs(middles.is_between(field, cut, other, thing), False, thing)

    def test_too_many_from_2001_on(self):
        def ends(parts):
            below = above = 0
            edges = [[], []]
            for more_below, more_above in parts:
                edges[0] += [((below + at, 0), (above, 1)) for at in range(1, more_below + 1)]
                edges[0] += [((below + more_below, 0), (above + at, 1)) for at in range(1, more_above + 1)]
                edges[1] += [((below, 0), (above + at, 1)) for at in range(1, more_above + 1)]
                edges[1] += [((below + at, 0), (above + more_above, 1)) for at in range(1, more_below + 1)]
                below, above = below + more_below, above + more_above
            field = ((0, 0), (below, 0), (above, 1), (0, 1))
            last = tuple(sorted([(below, 0), (above, 1)]))
            return [field] + [tuple(sorted({tuple(sorted(edge)) for edge in own} - {last})) for own in edges]

        # 2 * 2 * 2 * 2 * 5 * 5 * 5 CUTS are between, and 3 * 23 * 29.
        field, cut, other = ends([(1, 1)] * 4 + [(4, 1)] * 3)
        found = middles.between(field, cut, other)
        self.assertEqual((len(found), len(set(found)), found == sorted(found), cut in found, other in found),
                         (2000, 2000, True, True, True))
        self.assertTrue(all(middles.is_between(field, cut, other, own) for own in found[::50]))
        with self.assertRaises(TooMany):
            middles.between(*ends([(2, 1), (22, 1), (28, 1)]))
        with self.assertRaises(TooMany):
            middles.between(*ends([(29, 29)]))


class Errors(unittest.TestCase):
    def test_unfit_for_evenly_many(self):
        cut, other = own_cuts(ELL)[0], own_cuts(ELL)[1]
        for cuts in ((), [], (cut, other), (cut,) * 8, (cut, cut)):
            for call in (lambda: middles.median_cut(ELL, cuts), lambda: middles.majority(ELL, cuts),
                         lambda: middles.is_middle(ELL, cuts, cut), lambda: middles.is_middle(ELL, cuts, None),
                         lambda: middles.sum_to(ELL, cut, cuts)):
                with self.assertRaises(Unfit):
                    call()

    def test_unfit_for_what_is_no_cut(self):
        cut = own_cuts(ELL)[0]
        far = own_cuts(((0, 0), (2, 0), (2, 1), (0, 1)))[0]
        for wrong in (far, cut[1:], cut[::-1], None, 5, (), "cut"):
            for cuts in ((wrong,), (cut, wrong, cut), [cut, cut, wrong]):
                for call in (lambda: middles.median_cut(ELL, cuts), lambda: middles.majority(ELL, cuts),
                             lambda: middles.is_middle(ELL, cuts, cut), lambda: middles.sum_to(ELL, cut, cuts)):
                    with self.assertRaises(Unfit):
                        call()
            for call in (lambda: middles.sum_to(ELL, wrong, (cut,)), lambda: middles.between(ELL, cut, wrong),
                         lambda: middles.between(ELL, wrong, cut), lambda: middles.is_between(ELL, cut, wrong, cut),
                         lambda: middles.is_between(ELL, wrong, cut, None)):
                with self.assertRaises(Unfit):
                    call()


class Guarantees(unittest.TestCase):
    def test_of_three_the_only_one_between_each_two(self):
        dice = random.Random(313)
        for field in FIELDS:
            one, two, three = [dice.choice(own_cuts(field)) for _ in range(3)]
            both = [own for own in own_between(field, one, two) if own in own_between(field, two, three)]
            self.assertEqual([own for own in both if own in own_between(field, one, three)], [middles.median_cut(field, (one, two, three))])

    def test_of_cuts_between_two_the_middle_one_is_too(self):
        dice = random.Random(314)
        for field in FIELDS:
            one, two = dice.choice(own_cuts(field)), dice.choice(own_cuts(field))
            some = own_between(field, one, two)
            cuts = [dice.choice(some) for _ in range(5)]
            self.assertIn(middles.median_cut(field, cuts), some)

    def test_sheared(self):
        dice = random.Random(315)
        for field, cuts in drawn_cuts(dice, 2):
            shear = drawn_shear(dice)
            far = [sheared_edges(cut, shear) for cut in cuts]
            self.assertEqual(middles.median_cut(sheared_field(field, shear), far), sheared_edges(own_middle(field, cuts), shear))


if __name__ == "__main__":
    unittest.main()
