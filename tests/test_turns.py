"""[13]: TURNS, what comes of them, one after another, and the way back."""

import random
import unittest

from middledots import turns
from middledots.arms import are_neighbours
from middledots.errors import Broken, CanNot, NoMiddle, Unfit
from tests.cutting import (arm, drawn_plan, drawn_shear, exchanged, middle, own_completed, own_cuts, own_lots, own_net, own_steps,
                           own_triangles, own_turns, sheared_edges, sheared_field, small_fields)
from tests.helpers import ELL, made_fields, sheared, told

FIELDS = small_fields(261, 40, 400)
GREAT = [field for field in made_fields(262, 40, 6, 60) if 20 < len(own_lots(field)) < 60][:8]


def some_cuts(dice, many):
    """Pairs (field, cut): so many of each small FIELD, one of each great one."""
    found = [(field, dice.choice(own_cuts(field))) for field in FIELDS for _ in range(many)]
    return found + [(field, drawn_plan(dice, field, own_completed(field), 5)[1][-1]) for field in GREAT]


class OneTurn(unittest.TestCase):
    def test_turns_beside_own_parallelograms(self):
        dice = random.Random(263)
        for field, cut in some_cuts(dice, 8):
            with self.subTest(field=field, cut=cut):
                wanted = own_turns(field, cut)
                self.assertEqual(told(turns.turns(field, cut)), told(tuple(sorted(wanted))))
                for spot in own_lots(field):
                    self.assertIs(turns.can_turn(field, cut, spot), spot in wanted)

    def test_turns_beside_all_cuts(self):
        dice = random.Random(264)
        for field in FIELDS:
            for cut in dice.sample(own_cuts(field), min(10, len(own_cuts(field)))):
                net = own_net(field)[cut]
                self.assertEqual(turns.turns(field, cut), tuple(sorted(net)))
                self.assertEqual({spot: turns.turned(field, cut, spot) for spot in net}, net)

    def test_done_and_done_back(self):
        dice = random.Random(265)
        for field, cut in some_cuts(dice, 3):
            for spot, new in own_turns(field, cut).items():
                self.assertEqual(told(turns.new_edge(field, cut, spot)), told(new))
                other = turns.turned(field, cut, spot)
                self.assertEqual(told(other), told(exchanged(cut, spot, new)))
                self.assertEqual(turns.turned(field, other, spot), cut)
                old = next(edge for edge in cut if middle(edge) == spot)
                self.assertEqual(turns.new_edge(field, other, spot), old)
                self.assertTrue(are_neighbours(arm(old), arm(new)))

    def test_cannot(self):
        dice = random.Random(266)
        seen = 0
        for field, cut in some_cuts(dice, 3):
            for spot in own_lots(field):
                if spot not in own_turns(field, cut):
                    seen += 1
                    for function in (turns.new_edge, turns.turned):
                        with self.assertRaises(CanNot):
                            function(field, cut, spot)
        self.assertGreater(seen, 100)

    def test_no_middle(self):
        dice = random.Random(267)
        for field, cut in some_cuts(dice, 1):
            x, y = dice.choice(field)
            for spot in [(2 * x + dx, 2 * y + dy) for dx in range(-2, 3) for dy in range(-2, 3)] + [(10 ** 9, 1)]:
                if spot not in own_lots(field):
                    for function in (turns.new_edge, turns.can_turn, turns.turned):
                        with self.assertRaises(NoMiddle) as caught:
                            function([list(dot) for dot in field], cut, list(spot))
                        self.assertEqual(told(caught.exception.middle), told(spot))

    def test_unfit_ahead(self):
        cut = own_cuts(ELL)[0]
        for function in (turns.new_edge, turns.can_turn, turns.turned):
            for own, spot in ((cut[1:], (99, 99)), (cut, (1,)), (cut, None), (cut, (True, 1)), (None, (1, 1)), (cut[::-1], (1, 1))):
                with self.assertRaises(Unfit):
                    function(ELL, own, spot)

    def test_no_turns(self):
        self.assertEqual(told(turns.turns(((0, 0), (1, 0), (0, 1)), ())), told(()))
        self.assertEqual(told(turns.turns(((0, 0), (3, 0), (0, 1)), own_cuts(((0, 0), (3, 0), (0, 1)))[0])), told(()))


class Plans(unittest.TestCase):
    def test_drawn_ones(self):
        dice = random.Random(268)
        for field, cut in some_cuts(dice, 4):
            plan, along = drawn_plan(dice, field, cut, dice.randint(0, 12))
            self.assertEqual(told(turns.behind(field, cut, plan)), told(along[-1]))
            self.assertEqual(told(turns.cuts_along(field, cut, plan)), told(along))
            self.assertIs(turns.is_turned_by(field, cut, plan), True)
            self.assertEqual(told(turns.undone(plan)), told(plan[::-1]))
            self.assertEqual(turns.behind(field, along[-1], turns.undone(plan)), cut)
            self.assertEqual(turns.cuts_along(field, along[-1], plan[::-1]), along[::-1])
            as_lists = [list(spot) for spot in plan]
            self.assertEqual(told(turns.behind(field, list(cut), as_lists)), told(along[-1]))
            self.assertEqual(told(turns.undone(as_lists)), told(plan[::-1]))

    def test_broken_at_the_first_place(self):
        dice = random.Random(269)
        seen = set()
        for field, cut in some_cuts(dice, 5):
            plan, along = drawn_plan(dice, field, cut, dice.randint(0, 6))
            never = [spot for spot in own_lots(field) if spot not in own_turns(field, along[-1])]
            for wrong in never[:2] + [(10 ** 6, 7), (2, 2), (2 * field[0][0], 2 * field[0][1])]:
                for more in ((), plan[:1], ((0, 0),), (wrong, wrong)):
                    whole = plan + (wrong,) + more
                    seen.add(len(plan))
                    for function in (turns.behind, turns.cuts_along):
                        with self.assertRaises(Broken) as caught:
                            function(field, cut, whole)
                        self.assertEqual(told(vars(caught.exception)["place"]), told(len(plan)))
                    self.assertIs(turns.is_turned_by(field, cut, whole), False)
        self.assertEqual(seen, set(range(7)))

    def test_no_plan(self):
        field = ((0, 0), (2, 0), (2, 1), (0, 1))
        cut = own_cuts(field)[0]
        spot = sorted(own_turns(field, cut))[0]
        self.assertIs(turns.is_turned_by(field, cut, (spot,)), True)
        self.assertIs(turns.is_turned_by(field, cut, ()), True)
        for thing in ([spot], [], (list(spot),), spot, (spot + (1,),), ((True, spot[1]),), None, 0, False, "plan", (None,), ("ab",),
                      (spot, None), ((spot,),), ((),), (cut[0],), ((spot[0],),)):
            self.assertIs(turns.is_turned_by(field, cut, thing), False, thing)
        self.assertIs(turns.is_turned_by(field, cut, (spot,) * 5000), True)
        self.assertIs(turns.is_turned_by(field, cut, (spot,) * 5001 + ((9, 9),)), False)

    def test_unfit_plans(self):
        cut = own_cuts(ELL)[0]
        for plan in (None, 5, "ab", (1, 1), ((1, 1), None), ((1, True),), ((1, 1, 1),), ((1,),), {1: 2}, ((1, 1), "ab")):
            for call in (lambda: turns.behind(ELL, cut, plan), lambda: turns.cuts_along(ELL, cut, plan), lambda: turns.undone(plan)):
                with self.assertRaises(Unfit):
                    call()
        for function in (turns.behind, turns.cuts_along, turns.is_turned_by):
            with self.assertRaises(Unfit):
                function(ELL, cut[1:], ((99, 99),))
        self.assertEqual(told(turns.undone(((2, 2), [10 ** 7, 4]))), told(((10 ** 7, 4), (2, 2))))

    def test_two_thousand_turns(self):
        dice = random.Random(270)
        field = ((0, 0), (3, 0), (3, 1), (0, 1))
        net, cut = own_net(field), own_cuts(field)[0]
        plan, along = [], [cut]
        for _ in range(2000):
            plan.append(dice.choice(sorted(net[along[-1]])))
            along.append(net[along[-1]][plan[-1]])
        self.assertEqual(turns.behind(field, cut, plan), along[-1])
        self.assertEqual(turns.cuts_along(field, cut, plan), along)
        self.assertIs(turns.is_turned_by(field, cut, tuple(plan)), True)
        with self.assertRaises(Broken) as caught:
            turns.behind(field, cut, plan + [(0, 0)])
        self.assertEqual(caught.exception.place, 2000)


class Guarantees(unittest.TestCase):
    def test_turns_without_a_common_triangle_change_places(self):
        dice = random.Random(271)
        seen = 0
        for field, cut in some_cuts(dice, 4):
            own = {spot: {part for part in own_triangles(field, cut) if set(edge) <= set(part)}
                   for edge in cut for spot in [middle(edge)] if spot in own_turns(field, cut)}
            for one in own:
                for two in own:
                    if one != two and not own[one] & own[two]:
                        seen += 1
                        self.assertEqual(turns.behind(field, cut, (one, two)), turns.behind(field, cut, (two, one)))
        self.assertGreater(seen, 300)

    def test_some_turns_lead_from_each_cut_to_each_other_one(self):
        for field in FIELDS:
            self.assertEqual(set(own_steps(field, own_cuts(field)[0])), set(own_cuts(field)))

    def test_sheared(self):
        dice = random.Random(272)
        for field, cut in some_cuts(dice, 1)[:40]:
            first, second, move = shear = drawn_shear(dice)
            plan, along = drawn_plan(dice, field, cut, 5)
            twice = (2 * move[0], 2 * move[1])
            far = tuple(sheared(spot, first, second, twice) for spot in plan)
            self.assertEqual(turns.cuts_along(sheared_field(field, shear), sheared_edges(cut, shear), far),
                             [sheared_edges(own, shear) for own in along])


if __name__ == "__main__":
    unittest.main()
