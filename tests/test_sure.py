"""[22]: what can stand beside HELD EDGES at each MIDDLE, what is sure, how far CUTS can lie apart."""

import random
import unittest

from middledots import sure
from middledots.errors import CanNot, Unfit
from tests.cutting import (arm, drawn_shear, middle, own_all_dots, own_completed, own_crossed, own_cuts, own_free, own_lots, own_rim, own_steps,
                           own_with, sheared_edges, sheared_field, small_fields, with_bools)
from tests.helpers import ELL, made_fields, own_length, own_neighbours, own_way, random_edge, told

FIELDS = small_fields(481, 40, 300)
GREAT = [field for field in made_fields(482, 40, 6, 60) if 20 < len(own_lots(field)) < 60][:6]
BLOCK = ((0, 0), (2, 0), (2, 1), (0, 1))


def drawn(dice, many):
    """Pairs (field, edges): none, one, some or all EDGES of a CUT, some with rim EDGES."""
    found = []
    for field in FIELDS:
        for at in range(many):
            cut = dice.choice(own_cuts(field))
            edges = dice.sample(cut, min(len(cut), dice.choice([0, 1, 1, 2, 3, len(cut)])))
            edges += dice.sample(sorted(own_rim(field)), 2) if at % 2 else []
            found.append((field, tuple(sorted(edges))))
    return found


def own_standing(field, edges):
    """For each MIDDLE, ascending, the EDGES there that are in some CUT with edges."""
    found = {spot: set() for spot in own_lots(field)}
    for cut in own_with(field, edges):
        for edge in cut:
            found[middle(edge)].add(edge)
    return found


def own_near(one, two):
    """Whether the ARMS of both EDGES are neighbours."""
    most = max(map(abs, arm(two)))
    return arm(two) in own_neighbours(arm(one), most)


class Lots(unittest.TestCase):
    def test_beside_all_cuts(self):
        for field, edges in drawn(random.Random(483), 6):
            standing = own_standing(field, edges)
            wanted = tuple((spot, tuple(sorted(arm(edge) for edge in standing[spot]))) for spot in standing)
            self.assertEqual(told(sure.lots(field, edges)), told(wanted))
            self.assertEqual(sure.lots(list(field), [[list(dot) for dot in edge] for edge in edges]), wanted)
            self.assertTrue(all(1 <= len(arms) <= len(own_all_dots(field)) / 2 for _, arms in wanted))

    def test_arms_hang_together(self):
        for field, edges in drawn(random.Random(484), 2):
            for _, arms in sure.lots(field, edges):
                self.assertTrue(all(set(own_way(one, two)) <= set(arms) for one in arms for two in arms))

    def test_great_fields(self):
        dice = random.Random(485)
        for field in GREAT:
            cut = own_completed(field)
            for edges in ((), tuple(sorted(dice.sample(cut, 3))), cut):
                free = own_free(field, edges)
                self.assertEqual(sure.lots(field, edges), tuple((spot, tuple(sorted(map(arm, free[spot])))) for spot in free))
                self.assertEqual(sure.sure_edges(field, edges), tuple(sorted(lot[0] for lot in free.values() if len(lot) == 1)))
                wanted = tuple((spot, max(own_length(arm(one), arm(two)) for one in free[spot] for two in free[spot])) for spot in free)
                self.assertEqual((sure.spread(field, edges), sure.no_further(field, edges)), (wanted, sum(number for _, number in wanted)))


class Sure(unittest.TestCase):
    def test_sure_edges_beside_all_cuts(self):
        for field, edges in drawn(random.Random(486), 6):
            cuts = own_with(field, edges)
            wanted = tuple(sorted(set(cuts[0]).intersection(*cuts)))
            self.assertEqual(told(sure.sure_edges(field, edges)), told(wanted))
            self.assertTrue(set(edges) - own_rim(field) <= set(wanted))

    def test_is_sure_of_every_edge(self):
        dice = random.Random(487)
        for field, edges in drawn(dice, 2):
            cuts = own_with(field, edges)
            wanted = set(cuts[0]).intersection(*cuts)
            asked = [edge for lot in own_lots(field).values() for edge in lot] + sorted(own_rim(field)) + [random_edge(dice, 4, 3) for _ in range(5)]
            for edge in asked:
                self.assertIs(sure.is_sure(field, edges, edge), edge in wanted)
            self.assertIs(sure.is_sure(list(field), list(edges), [list(dot) for dot in asked[0]]), asked[0] in wanted)

    def test_sure_where_nothing_that_can_stand_crosses(self):
        for field, edges in drawn(random.Random(488), 2):
            free = [edge for lot in own_free(field, edges).values() for edge in lot]
            for edge in free:
                self.assertIs(sure.is_sure(field, edges, edge), not any(other in own_crossed(field)[edge] for other in free))
                self.assertIs(sure.is_sure(field, edges, edge), not any(middle(other) == middle(edge) and own_near(edge, other) for other in free))


class Others(unittest.TestCase):
    def test_other_edge(self):
        seen = [0, 0]
        for field, edges in drawn(random.Random(489), 4):
            for lot in own_standing(field, edges).values():
                for edge in sorted(lot):
                    near = [other for other in lot if own_near(edge, other)]
                    self.assertEqual(near == [], len(lot) == 1)
                    seen[near == []] += 1
                    if near:
                        found = sure.other_edge(field, edges, edge)
                        self.assertIn(told(found), [told(other) for other in near])
                        self.assertEqual(sure.other_edge(list(field), list(edges), list(edge)), found)
                        self.assertIs(sure.is_other_edge(field, edges, edge, found), True)
                    else:
                        with self.assertRaises(CanNot):
                            sure.other_edge(field, edges, edge)
        self.assertGreater(min(seen), 100)

    def test_is_other_edge(self):
        dice = random.Random(490)
        seen = 0
        for field, edges in drawn(dice, 1):
            standing = own_standing(field, edges)
            everything = [edge for lot in own_lots(field).values() for edge in lot] + sorted(own_rim(field)) + [random_edge(dice, 4, 3)]
            for spot, lot in standing.items():
                for edge in sorted(lot):
                    for thing in everything:
                        wanted = thing in lot and own_near(edge, thing)
                        seen += wanted
                        self.assertIs(sure.is_other_edge(field, edges, edge, thing), wanted)
                        if wanted:
                            for bad in (list(thing), tuple(map(list, thing)), thing[::-1], thing + thing, (thing,), with_bools(thing)):
                                if told(bad) != told(thing):
                                    self.assertIs(sure.is_other_edge(field, edges, edge, bad), False)
                    for thing in (None, True, 5, "edge", (), edge[0]):
                        self.assertIs(sure.is_other_edge(field, edges, edge, thing), False)
        self.assertGreater(seen, 100)

    def test_at_the_middle_but_crossing_what_is_held(self):
        up, wall, down = ((0, 0), (1, 1)), ((1, 0), (1, 1)), ((0, 1), (2, 0))
        self.assertIs(sure.is_other_edge(BLOCK, (), wall, down), True)
        self.assertIs(sure.is_other_edge(BLOCK, (up,), wall, down), False)
        self.assertIs(sure.is_other_edge(BLOCK, (up,), wall, ((0, 0), (2, 1))), True)
        # At one MIDDLE, but two steps apart.
        self.assertIs(sure.is_other_edge(BLOCK, (), down, ((0, 0), (2, 1))), False)
        field = ((0, 0), (3, 0), (3, 1), (0, 1))
        self.assertIs(sure.is_other_edge(field, (), ((0, 0), (3, 1)), ((1, 1), (2, 0))), False)
        self.assertIs(sure.is_other_edge(field, (), ((0, 0), (3, 1)), ((1, 0), (2, 1))), True)

    def test_lot_way(self):
        for field, edges in drawn(random.Random(491), 3):
            for lot in own_standing(field, edges).values():
                at = {arm(edge): edge for edge in lot}
                for one in sorted(lot):
                    for two in sorted(lot):
                        wanted = tuple(at[own] for own in own_way(arm(one), arm(two)))
                        self.assertEqual(told(sure.lot_way(field, edges, one, two)), told(wanted))
                    self.assertEqual(told(sure.lot_way(field, edges, one, list(one))), told((one,)))

    def test_great_lots(self):
        field = ((0, 0), (29, 0), (29, 1), (0, 1))
        way = sure.lot_way(field, (), ((0, 0), (29, 1)), ((0, 1), (29, 0)))
        self.assertEqual([arm(edge) for edge in way], [(own, 1) for own in range(29, 0, -2)] + [(own, -1) for own in range(1, 30, 2)])
        self.assertEqual(dict(sure.spread(field, ()))[29, 1], 29)
        self.assertEqual(sure.no_further(field, ()), sum(min(own, 58 - own) for own in range(1, 58)))


class Spread(unittest.TestCase):
    def test_beside_own_ways(self):
        for field, edges in drawn(random.Random(492), 4):
            standing = own_standing(field, edges)
            wanted = tuple((spot, max(own_length(arm(one), arm(two)) for one in lot for two in lot)) for spot, lot in standing.items())
            self.assertEqual(told(sure.spread(field, edges)), told(wanted))
            self.assertEqual(told(sure.no_further(field, edges)), told(sum(number for _, number in wanted)))

    def test_no_cuts_lie_further_apart(self):
        dice = random.Random(493)
        for field, edges in drawn(dice, 1):
            cuts = own_with(field, edges)
            steps = own_steps(field, dice.choice(cuts))
            self.assertLessEqual(max(steps[cut] for cut in cuts), sure.no_further(field, edges))

    def test_lots_with_many_edges(self):
        # The longest WAY need not begin at the first ARM, nor at the last one.
        seen = 0
        for field in made_fields(497, 60, 6, 40):
            found = dict(sure.spread(field, ()))
            for spot, lot in own_lots(field).items():
                lengths = {(one, two): own_length(arm(one), arm(two)) for one in lot for two in lot}
                self.assertEqual(found[spot], max(lengths.values()))
                seen += max(lengths.values()) > max(lengths[end, own] for own in lot for end in (lot[0], lot[-1]))
        self.assertGreater(seen, 3)


class Errors(unittest.TestCase):
    up, down, wall = ((0, 0), (1, 1)), ((0, 1), (1, 0)), ((1, 0), (1, 1))

    def check(self, error, function, *args):
        with self.assertRaises(error):
            function(*args)

    def functions(self):
        """Each function with an EDGE, as one of (field, edges, edge)."""
        return [sure.is_sure, sure.other_edge, lambda *args: sure.is_other_edge(*args, None), lambda *args: sure.lot_way(*args, args[2]),
                lambda *args: sure.lot_way(*args, self.wall)]

    def test_no_field_and_no_held_edges(self):
        wrong = [(BLOCK[::-1], ()), (None, ()), (5, ()), (BLOCK, None), (BLOCK, 5), (BLOCK, self.up), (BLOCK, (self.up, self.down)),
                 (BLOCK, (self.wall, self.up)), (BLOCK, (self.up, self.up)), (BLOCK, (((0, 0), (2, 2)),)), (BLOCK, (((0, 0), (1, 2)),)),
                 (BLOCK, (self.up[::-1],)), (BLOCK, (self.up, None)), (ELL[1:] + ELL[:1], ()), (BLOCK, "ab"), (BLOCK, (((0, 0), (1, True)),))]
        for field, edges in wrong:
            for function in (sure.lots, sure.sure_edges, sure.spread, sure.no_further):
                self.check(Unfit, function, field, edges)
            for function in self.functions():
                for edge in (self.wall, self.up, None):
                    self.check(Unfit, function, field, edges, edge)

    def test_no_edge(self):
        for edge in (None, 5, True, "ab", (), self.up[::-1], ((0, 0), (2, 2)), ((0, 0), (0, 0)), ((0, 0),), ((0, 0), (1, True)), (self.up,), self.up * 2):
            for function in self.functions():
                self.check(Unfit, function, BLOCK, (), edge)
            self.check(Unfit, sure.lot_way, BLOCK, (), self.wall, edge)

    def test_what_can_not_stand(self):
        dice = random.Random(494)
        seen = 0
        for field, edges in drawn(dice, 2):
            standing = {edge for lot in own_standing(field, edges).values() for edge in lot}
            asked = [edge for lot in own_lots(field).values() for edge in lot if edge not in standing] + sorted(own_rim(field))[:2]
            for edge in asked + [((10, 10), (10, 11)), random_edge(dice, 3, 2)]:
                if edge not in standing:
                    seen += 1
                    self.check(Unfit, sure.other_edge, field, edges, edge)
                    self.check(Unfit, sure.is_other_edge, field, edges, edge, edge)
                    self.check(Unfit, sure.is_other_edge, field, edges, edge, None)
                    self.check(Unfit, sure.lot_way, field, edges, edge, edge)
                    for other in sorted(standing)[:2]:
                        self.check(Unfit, sure.lot_way, field, edges, edge, other)
                        self.check(Unfit, sure.lot_way, field, edges, other, edge)
        self.assertGreater(seen, 200)

    def test_unlike_middles(self):
        for field, edges in drawn(random.Random(495), 1):
            lots = [sorted(lot) for lot in own_standing(field, edges).values()]
            for one, two in zip(lots, lots[1:]):
                self.check(Unfit, sure.lot_way, field, edges, one[0], two[0])
                self.check(Unfit, sure.lot_way, field, edges, two[-1], one[-1])

    def test_can_not_only_for_what_is_sure(self):
        for edges in ((self.up,), (self.wall,), (((0, 0), (2, 1)),)):
            self.check(CanNot, sure.other_edge, BLOCK, edges, edges[0])
            self.check(Unfit, sure.other_edge, BLOCK, edges, ((0, 1), (2, 0)))
            self.assertIs(sure.is_other_edge(BLOCK, edges, edges[0], ((0, 1), (2, 0))), False)
        self.check(CanNot, sure.other_edge, ((0, 0), (3, 0), (1, 2)), (), ((0, 0), (1, 1)))


class Guarantees(unittest.TestCase):
    def test_sheared(self):
        dice = random.Random(496)
        for field, edges in drawn(dice, 1):
            shear = drawn_shear(dice)
            far, kept = sheared_field(field, shear), sheared_edges(edges, shear)
            self.assertEqual(sure.sure_edges(far, kept), sheared_edges(sure.sure_edges(field, edges), shear))
            self.assertEqual(sure.no_further(far, kept), sure.no_further(field, edges))


if __name__ == "__main__":
    unittest.main()
