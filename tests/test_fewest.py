"""[14]: the fewest TURNS between two CUTS, the WAYS that tell them, PLANS that do with them."""

import random
import unittest
from collections import Counter

from middledots import fewest
from middledots.errors import CanNot, Unfit
from tests.cutting import (arm, drawn_plan, drawn_shear, exchanged, middle, own_completed, own_cuts, own_lots, own_net, own_steps,
                           own_turns, sheared_edges, sheared_field, small_fields, with_bools)
from tests.helpers import ELL, made_fields, own_length, own_way, sheared, square, told

FIELDS = small_fields(281, 40, 400)
GREAT = [field for field in made_fields(282, 40, 6, 60) if 20 < len(own_lots(field)) < 60][:8]


def pairs(dice, many):
    """Triples (field, cut, other): all of FIELDS with few CUTS, so many of others."""
    found = []
    for field in FIELDS:
        cuts = own_cuts(field)
        if len(cuts) < 9:
            found += [(field, cut, other) for cut in cuts for other in cuts]
        else:
            found += [(field, dice.choice(cuts), dice.choice(cuts)) for _ in range(many)]
    return found


def own_ways(cut, other):
    """The WAYS of both CUTS."""
    arms, others = ({middle(edge): arm(edge) for edge in own} for own in (cut, other))
    return tuple((spot, own_way(arms[spot], others[spot])) for spot in sorted(arms) if arms[spot] != others[spot])


def walked(field, cut, plan):
    """The CUT behind plan; None if one of it is no TURN."""
    for spot in plan:
        found = own_turns(field, cut)
        if spot not in found:
            return None
        cut = exchanged(cut, spot, found[spot])
    return cut


class Fewest(unittest.TestCase):
    def test_beside_own_search_through_all_cuts(self):
        dice = random.Random(283)
        for field, cut, other in pairs(dice, 40):
            wanted = own_steps(field, cut)[other]
            self.assertEqual(told(fewest.fewest(field, cut, other)), told(wanted))
            self.assertEqual(fewest.fewest(field, other, cut), wanted)

    def test_from_each_cut_to_each_other_one(self):
        for field in FIELDS[:12]:
            cuts = own_cuts(field)
            if len(cuts) < 60:
                for cut in cuts:
                    self.assertEqual([fewest.fewest(field, cut, other) for other in cuts], [own_steps(field, cut)[other] for other in cuts])

    def test_ways_and_shares(self):
        dice = random.Random(284)
        for field, cut, other in pairs(dice, 20):
            wanted = own_ways(cut, other)
            self.assertEqual(told(fewest.ways(field, cut, other)), told(wanted))
            lengths = tuple((spot, len(way) - 1) for spot, way in wanted)
            self.assertEqual(told(fewest.shares(field, cut, other)), told(lengths))
            self.assertEqual(sum(length for _, length in lengths), own_steps(field, cut)[other])

    def test_equal_cuts(self):
        for field in FIELDS:
            cut = own_completed(field)
            self.assertEqual(told((fewest.fewest(field, cut, cut), fewest.ways(field, cut, cut), fewest.shares(field, cut, cut),
                                   fewest.plan(field, cut, cut), fewest.first_turns(field, cut, cut))), told((0, (), (), (), ())))
            self.assertIs(fewest.is_plan(field, cut, cut, ()), True)
            with self.assertRaises(CanNot):
                fewest.longest_unlike(field, cut, list(cut))

    def test_at_most_by_how_far_edges_lie_apart(self):
        for field in FIELDS[:15]:
            most = max([own_length(arm(one), arm(two)) for lot in own_lots(field).values() for one in lot for two in lot], default=0)
            for cut in own_cuts(field)[:5]:
                self.assertLessEqual(max(own_steps(field, cut).values()), len(cut) * most)

    def test_great_fields(self):
        dice = random.Random(285)
        for field in GREAT:
            cut = own_completed(field)
            other = drawn_plan(dice, field, cut, 40)[1][-1]
            wanted = own_ways(cut, other)
            self.assertEqual(told(fewest.ways(field, cut, other)), told(wanted))
            self.assertEqual(fewest.fewest(field, cut, other), sum(len(way) - 1 for _, way in wanted))
            self.assertEqual(walked(field, cut, fewest.plan(field, cut, other)), other)

    def test_far_apart(self):
        field = ((0, 0), (29, 0), (29, 1), (0, 1))
        low = tuple(sorted([((0, 0), (at, 1)) for at in range(1, 30)] + [((at, 0), (29, 1)) for at in range(1, 29)]))
        high = tuple(sorted([((0, 1), (at, 0)) for at in range(1, 30)] + [((at, 1), (29, 0)) for at in range(1, 29)]))
        self.assertEqual(fewest.fewest(field, low, high), 29 * 29)
        plan = fewest.plan(field, low, high)
        self.assertEqual(len(plan), 29 * 29)
        self.assertIs(fewest.is_plan(field, low, high, plan), True)
        self.assertEqual(walked(field, low, plan), high)


class Plans(unittest.TestCase):
    def test_a_plan_told(self):
        dice = random.Random(286)
        for field, cut, other in pairs(dice, 20):
            plan = fewest.plan(field, cut, other)
            self.assertEqual(told(plan)[0], "tuple")
            self.assertEqual(walked(field, cut, plan), other)
            self.assertEqual(len(plan), own_steps(field, cut)[other])
            self.assertEqual(Counter(plan), {spot: len(way) - 1 for spot, way in own_ways(cut, other)})
            self.assertIs(fewest.is_plan(field, cut, other, plan), True)
            self.assertEqual(told(plan), told(fewest.plan(list(field), [list(edge) for edge in cut], other)))

    def test_other_orders(self):
        dice = random.Random(287)
        seen = {True: 0, False: 0}
        for field, cut, other in pairs(dice, 10):
            plan = list(fewest.plan(field, cut, other))
            for _ in range(6):
                dice.shuffle(plan)
                does = walked(field, cut, plan) == other
                seen[does] += 1
                self.assertIs(fewest.is_plan(field, cut, other, tuple(plan)), does)
            # Whatever TURN comes nearer: it is always the beginning of a PLAN.
            own, left = [], cut
            while left != other:
                net, steps = own_net(field)[left], own_steps(field, other)
                own.append(dice.choice([spot for spot in net if steps[net[spot]] < steps[left]]))
                left = net[own[-1]]
            self.assertIs(fewest.is_plan(field, cut, other, tuple(own)), True)
        self.assertGreater(min(seen.values()), 100)

    def test_longer_ones_and_others(self):
        dice = random.Random(288)
        for field, cut, other in pairs(dice, 5):
            plan = fewest.plan(field, cut, other)
            more, along = drawn_plan(dice, field, other, 1)
            for thing in (plan + more + more, more + plan, plan + more, list(plan), plan + ((0, 0),), (plan,), None, 7, True, "plan",
                          plan[:-1] + (None,), plan[:-1] + ((1, 2, 3),), tuple(list(spot) for spot in plan), plan[1:], plan + plan,
                          with_bools(plan)):
                if told(thing) != told(plan):
                    self.assertIs(fewest.is_plan(field, cut, other, thing), False, thing)

    def test_plans_that_lead_elsewhere(self):
        field = ((0, 0), (2, 0), (2, 1), (0, 1))
        for cut in own_cuts(field):
            for other in own_cuts(field):
                for spot in own_net(field)[cut]:
                    self.assertIs(fewest.is_plan(field, cut, other, (spot,)), own_net(field)[cut][spot] == other)

    def test_first_turns(self):
        dice = random.Random(289)
        for field, cut, other in pairs(dice, 25):
            steps, net = own_steps(field, other), own_net(field)[cut]
            wanted = tuple(spot for spot in sorted(net) if steps[net[spot]] < steps[cut])
            self.assertEqual(told(fewest.first_turns(field, cut, other)), told(wanted))
            self.assertEqual(wanted == (), cut == other)
            self.assertTrue(all(abs(steps[far] - steps[cut]) == 1 for far in net.values()))

    def test_longest_unlike(self):
        dice = random.Random(290)
        for field, cut, other in pairs(dice, 25):
            if cut != other:
                alone = set(cut) ^ set(other)
                wanted = sorted((square(arm(edge)), edge) for edge in alone)[-1][1]
                self.assertEqual(told(fewest.longest_unlike(field, cut, other)), told(wanted))
                own, far = (cut, other) if wanted in cut else (other, cut)
                behind = own_net(field)[own][middle(wanted)]
                self.assertEqual(own_steps(field, far)[behind], own_steps(field, far)[own] - 1)

    def test_longest_by_the_square(self):
        dice = random.Random(293)
        seen = 0
        for field, cut, other in pairs(dice, 4):
            shear = drawn_shear(dice)
            far, one, two = sheared_field(field, shear), sheared_edges(cut, shear), sheared_edges(other, shear)
            if one != two:
                alone = set(one) ^ set(two)
                wanted = max((square(arm(edge)), edge) for edge in alone)[1]
                self.assertEqual(fewest.longest_unlike(far, one, two), wanted)
                seen += wanted != max((sum(map(abs, arm(edge))), edge) for edge in alone)[1]
                seen += wanted != max((max(map(abs, arm(edge))), edge) for edge in alone)[1]
        self.assertGreater(seen, 10)


class Errors(unittest.TestCase):
    def test_cuts_of_another_field(self):
        cut, far = own_cuts(ELL)[0], own_cuts(((0, 0), (2, 0), (2, 1), (0, 1)))[0]
        for function in (fewest.fewest, fewest.ways, fewest.shares, fewest.plan, fewest.first_turns, fewest.longest_unlike,
                         lambda field, one, two: fewest.is_plan(field, one, two, ())):
            for own, other in ((cut, far), (far, cut), (far, far), (cut, cut[1:]), (cut[::-1], cut), (cut, None), (5, cut), ((), ())):
                with self.assertRaises(Unfit):
                    function(ELL, own, other)


class Guarantees(unittest.TestCase):
    def test_by_another_one_at_least_so_far(self):
        dice = random.Random(291)
        for field, cut, other in pairs(dice, 10):
            third = dice.choice(own_cuts(field))
            self.assertGreaterEqual(fewest.fewest(field, cut, third) + fewest.fewest(field, third, other), fewest.fewest(field, cut, other))

    def test_sheared(self):
        dice = random.Random(292)
        for field, cut, other in pairs(dice, 3):
            first, second, move = shear = drawn_shear(dice)
            far, one, two = sheared_field(field, shear), sheared_edges(cut, shear), sheared_edges(other, shear)
            self.assertEqual(fewest.fewest(far, one, two), fewest.fewest(field, cut, other))
            plan = tuple(sheared(spot, first, second, (2 * move[0], 2 * move[1])) for spot in fewest.plan(field, cut, other))
            self.assertIs(fewest.is_plan(far, one, two, plan), True)


if __name__ == "__main__":
    unittest.main()
