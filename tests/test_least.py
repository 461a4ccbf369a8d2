"""[20]: squares of CUTS, what shortens, ways down, least CUTS."""

import random
import unittest
from functools import lru_cache

from middledots import least
from middledots.errors import TooMany, Unfit
from tests.cutting import (arm, drawn_plan, drawn_shear, middle, own_completed, own_cuts, own_lots, own_net, own_steps, own_turns,
                           sheared_edges, sheared_field, small_fields, with_bools)
from tests.helpers import ELL, made_fields, own_elders, own_field, square, told

FIELDS = small_fields(441, 45, 300)
GREAT = [field for field in made_fields(442, 40, 6, 60) if 20 < len(own_lots(field)) < 60][:6]
BLOCK = ((0, 0), (2, 0), (2, 1), (0, 1))


def own_squares(cut):
    return sum(square(arm(edge)) for edge in cut)


@lru_cache(maxsize=None)
def own_shorter(field):
    """For each CUT of field those to which a TURN leads that has a lesser square, told by its MIDDLE."""
    net = own_net(field)
    return {cut: {spot: far for spot, far in net[cut].items() if own_squares(far) < own_squares(cut)} for cut in net}


@lru_cache(maxsize=None)
def own_ends(field):
    """For each CUT the set of the pairs (least CUT, TURNS) at which ways down end, whatever is shortened first."""
    shorter, ends = own_shorter(field), {}
    for cut in sorted(shorter, key=own_squares):
        found = {(end, many + 1) for far in shorter[cut].values() for end, many in ends[far]}
        ends[cut] = found or {(cut, 0)}
    return ends


@lru_cache(maxsize=None)
def own_least(field):
    """The least CUTS, ascending."""
    return [cut for cut, far in sorted(own_shorter(field).items()) if far == {}]


def drawn(dice, many):
    return [(field, dice.choice(own_cuts(field))) for field in FIELDS for _ in range(many)]


def drawn_way(dice, field, cut):
    """A way down, whatever shortens drawn first."""
    way = []
    while own_shorter(field)[cut]:
        way.append(dice.choice(sorted(own_shorter(field)[cut])))
        cut = own_shorter(field)[cut][way[-1]]
    return tuple(way)


def is_down(field, cut, plan):
    """Whether each TURN of plan shortens, and a least CUT stands behind."""
    for spot in plan:
        cut = own_shorter(field)[cut].get(spot)
        if cut is None:
            return False
    return own_shorter(field)[cut] == {}


class Squares(unittest.TestCase):
    def test_beside_own_sums(self):
        for field, cut in drawn(random.Random(443), 6):
            self.assertEqual(told(least.squares(field, cut)), told(own_squares(cut)))
            self.assertEqual(least.squares(list(field), [list(edge) for edge in cut]), own_squares(cut))
        self.assertEqual(told(least.squares(((0, 0), (1, 0), (0, 1)), ())), told(0))

    def test_shortening_beside_own_turns(self):
        for field, cut in drawn(random.Random(444), 6):
            turns = own_turns(field, cut)
            wanted = tuple(spot for spot in sorted(turns) if square(arm(turns[spot])) < square(arm(next(edge for edge in cut if middle(edge) == spot))))
            self.assertEqual(told(least.shortening(field, cut)), told(wanted))
            self.assertEqual(wanted, tuple(sorted(own_shorter(field)[cut])))
            self.assertIs(least.is_least(field, cut), wanted == ())


class WayDown(unittest.TestCase):
    def test_walked(self):
        for field, cut in drawn(random.Random(445), 6):
            way = least.way_down(field, cut)
            self.assertEqual(told(way)[0], "tuple")
            self.assertTrue(is_down(field, cut, way))
            self.assertIs(least.is_way_down(field, cut, way), True)
            self.assertEqual(told(least.turns_down(field, cut)), told(len(way)))

    def test_the_same_end_whatever_is_first(self):
        for field in FIELDS:
            for cut, ends in list(own_ends(field).items())[::3]:
                self.assertEqual(len(ends), 1)
                self.assertEqual({(least.least_behind(field, cut), least.turns_down(field, cut))}, ends)

    def test_no_shorter_plan_leads_to_a_least_one(self):
        for field, cut in drawn(random.Random(446), 2):
            self.assertEqual(least.turns_down(field, cut), min(own_steps(field, cut)[own] for own in own_least(field)))

    def test_elder_after_elder(self):
        for field, cut in drawn(random.Random(447), 2):
            behind = {middle(edge): edge for edge in least.least_behind(field, cut)}
            many = 0
            for edge in cut:
                elders = own_elders(arm(edge))
                self.assertIn(arm(behind[middle(edge)]), elders)
                many += elders.index(arm(behind[middle(edge)]))
            self.assertEqual(least.turns_down(field, cut), many)

    def test_other_ways_and_things(self):
        dice = random.Random(448)
        seen = {True: 0, False: 0}
        for field, cut in drawn(dice, 6):
            way = drawn_way(dice, field, cut)
            shuffled = list(way)
            dice.shuffle(shuffled)
            more, _ = drawn_plan(dice, field, least.least_behind(field, cut), 1)
            for thing in (way, tuple(shuffled), way[::-1], way[:-1], way[1:], way + more, more + way, way + more + more, drawn_plan(dice, field, cut, 2)[0],
                          way + way, (), ((0, 1),), ((0, 0),)):
                seen[is_down(field, cut, thing)] += 1
                self.assertIs(least.is_way_down(field, cut, thing), is_down(field, cut, thing))
            for thing in (list(way), None, True, 5, "way", (way,), way + (None,), way + ((1, 2, 3),), tuple(map(list, way)), with_bools(way), way + ("ab",)):
                if told(thing) != told(way):
                    self.assertIs(least.is_way_down(field, cut, thing), False, thing)
        self.assertGreater(min(seen.values()), 300)

    def test_a_turn_that_does_not_shorten_leads_down_nowhere(self):
        # At a loose MIDDLE the other diagonal is just as long.
        cut = least.least_cuts(BLOCK)[0]
        self.assertIs(least.is_way_down(BLOCK, cut, ()), True)
        for plan in (((1, 1),), ((1, 1), (1, 1)), ((3, 1),)):
            self.assertIs(least.is_way_down(BLOCK, cut, plan), False)

    def test_great_fields(self):
        dice = random.Random(449)
        for field in GREAT + [((0, 0), (29, 0), (29, 1), (0, 1))]:
            cut = drawn_plan(dice, field, own_completed(field), 20)[1][-1]
            way, own = least.way_down(field, cut), cut
            for spot in way:
                turned, come = next(edge for edge in own if middle(edge) == spot), own_turns(field, own)[spot]
                self.assertLess(square(arm(come)), square(arm(turned)))
                own = tuple(sorted([edge for edge in own if edge != turned] + [come]))
            self.assertEqual(least.least_behind(field, cut), own)
            self.assertEqual((least.shortening(field, own), least.turns_down(field, cut)), ((), len(way)))
            self.assertIn(least.least_behind(field, cut), least.least_cuts(field) if least.many_least(field) <= 2000 else [own])

    def test_far_down(self):
        field = ((0, 0), (29, 0), (29, 1), (0, 1))
        low = tuple(sorted([((0, 0), (at, 1)) for at in range(1, 30)] + [((at, 0), (29, 1)) for at in range(1, 29)]))
        way = least.way_down(field, low)
        self.assertIs(least.is_way_down(field, low, way), True)
        # From (k, 1) elders lead two by two to (1, 1) or (0, 1).
        many = sum(at // 2 for at in range(1, 30)) + sum(at // 2 for at in range(1, 29))
        self.assertEqual((len(way), least.turns_down(field, low)), (many, many))


class Least(unittest.TestCase):
    def test_beside_all_cuts(self):
        for field in FIELDS:
            wanted = own_least(field)
            found = least.least_cuts(field)
            self.assertEqual(told(found), told(wanted))
            self.assertIsNot(found, least.least_cuts(field))
            self.assertEqual(told(least.many_least(field)), told(len(wanted)))
            self.assertEqual(len(wanted), 2 ** len(least.loose_middles(field)))
            self.assertTrue(all(least.is_least(field, cut) for cut in wanted))

    def test_loose_middles(self):
        for field in FIELDS:
            edges = {edge for cut in own_least(field) for edge in cut}
            spots = [middle(edge) for edge in edges]
            wanted = tuple(spot for spot in own_lots(field) if spots.count(spot) > 1)
            self.assertEqual(told(least.loose_middles(field)), told(wanted))
            for x, y in wanted:
                self.assertEqual({edge for edge in edges if middle(edge) == (x, y)},
                                 {(((x - 1) // 2, (y - 1) // 2), ((x + 1) // 2, (y + 1) // 2)), (((x - 1) // 2, (y + 1) // 2), ((x + 1) // 2, (y - 1) // 2))})

    def test_least_squares(self):
        for field in FIELDS:
            wanted = tuple((spot, min(square(arm(edge)) for edge in lot)) for spot, lot in own_lots(field).items())
            self.assertEqual(told(least.least_squares(field)), told(wanted))
            for cut in own_least(field):
                self.assertEqual(tuple((middle(edge), square(arm(edge))) for edge in sorted(cut, key=middle)), wanted)
            self.assertEqual(sum(number for _, number in wanted), min(map(own_squares, own_cuts(field))))

    def test_too_many(self):
        # Each unit square within is a loose MIDDLE: ten of them are 1,024 least CUTS, eleven 2,048.
        for field, many in ((((0, 0), (5, 0), (5, 2), (0, 2)), 10), (((0, 0), (10, 0), (10, 1), (0, 1)), 10), (((3, 3), (5, 3), (5, 8), (3, 8)), 10)):
            found = least.least_cuts(field)
            self.assertEqual((len(found), len(set(found)), found), (2 ** many, 2 ** many, sorted(found)))
            self.assertTrue(all(least.is_least(field, cut) for cut in found[::100]))
        for field, many in ((((0, 0), (11, 0), (11, 1), (0, 1)), 11), (((0, 0), (4, 0), (4, 3), (0, 3)), 12), (((0, 0), (29, 0), (29, 1), (0, 1)), 29),
                            (((0, 0), (6, 0), (6, 5), (0, 5)), 30)):
            with self.assertRaises(TooMany):
                least.least_cuts(field)
            self.assertEqual(told((least.many_least(field), len(least.loose_middles(field)))), told((2 ** many, many)))

    def test_triangles_alone(self):
        field = own_field(((7, 7), (8, 7), (9, 8)))
        self.assertEqual(told((least.loose_middles(field), least.many_least(field), least.least_cuts(field), least.least_squares(field),
                               least.least_behind(field, ()), least.way_down(field, ()), least.turns_down(field, ()), least.is_least(field, ()))),
                         told(((), 1, [()], (), (), (), 0, True)))

    def test_sheared_they_are_others(self):
        dice = random.Random(450)
        for field in FIELDS[:20]:
            shear = drawn_shear(dice)
            far = sheared_field(field, shear)
            cut = sheared_edges(least.least_cuts(field)[0], shear)
            self.assertEqual(least.is_least(far, cut), cut in least.least_cuts(far))


class Errors(unittest.TestCase):
    def test_unfit(self):
        cut, far = own_cuts(BLOCK)[0], own_cuts(ELL)[0]
        for function in (least.squares, least.shortening, least.is_least, least.way_down, least.turns_down, least.least_behind,
                         lambda field, own: least.is_way_down(field, own, None), lambda field, own: least.is_way_down(field, own, ())):
            for field, own in ((BLOCK, far), (ELL, cut), (BLOCK, cut[1:]), (BLOCK, cut[::-1]), (BLOCK, None), (BLOCK, 5), (BLOCK, ()), (BLOCK, cut + cut),
                               (BLOCK[::-1], cut), (None, cut), (5, cut), ("ab", None), (BLOCK[1:] + BLOCK[:1], cut)):
                with self.assertRaises(Unfit):
                    function(field, own)
        for function in (least.loose_middles, least.many_least, least.least_cuts, least.least_squares):
            for field in (None, 5, "ab", (), BLOCK[::-1], BLOCK[:2], ((0, 0), (1, 0), (2, 0), (0, 1)), ((0, 0), (1, 0), (0, True)), (BLOCK,)):
                with self.assertRaises(Unfit):
                    function(field)


if __name__ == "__main__":
    unittest.main()
