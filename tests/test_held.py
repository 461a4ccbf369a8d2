"""[18]: HELD EDGES, what can be turned beside them, PLANS that leave them."""

import random
import unittest
from collections import deque

from middledots import held
from middledots.errors import NoEdge, Unfit
from tests.cutting import (bent, drawn_plan, drawn_shear, middle, own_completed, own_cuts, own_free, own_lots, own_net, own_rim, own_steps,
                           own_turns, sheared_edges, sheared_field, small_fields, with_bools)
from tests.helpers import ELL, made_fields, own_cross, own_length, random_edge, told

FIELDS = small_fields(421, 40, 300)
GREAT = [field for field in made_fields(422, 40, 6, 60) if 20 < len(own_lots(field)) < 60][:6]
BLOCK = ((0, 0), (2, 0), (2, 1), (0, 1))


def common(cut, other):
    return sorted(set(cut) & set(other))


def drawn(dice, many):
    """Quadruples (field, cut, other, held): two CUTS, often near one another, some EDGES that both have."""
    found = []
    for field in FIELDS:
        for at in range(many):
            cut = dice.choice(own_cuts(field))
            other = dice.choice(own_cuts(field)) if at % 3 == 0 else drawn_plan(dice, field, cut, dice.randint(0, 5))[1][-1]
            both = common(cut, other)
            found.append((field, cut, other, tuple(sorted(dice.sample(both, dice.randint(0, len(both)))))))
    return found


def steps_leaving(field, cut, edges):
    """For each CUT to which PLANS from cut lead that leave edges how many TURNS it is from there, by a search."""
    net, steps, waiting = own_net(field), {cut: 0}, deque([cut])
    while waiting:
        own = waiting.popleft()
        for spot, far in net[own].items():
            if set(edges) <= set(far) and far not in steps:
                steps[far] = steps[own] + 1
                waiting.append(far)
    return steps


def leads(field, cut, other, edges, plan):
    """Whether plan leads from cut to other by CUTS with edges alone."""
    own = cut
    for spot in plan:
        own = own_net(field)[own].get(spot)
        if own is None or not set(edges) <= set(own):
            return False
    return own == other


def held_together(dice, field, rim):
    """EDGES that stand together: some of a CUT, some rim ones."""
    cut = dice.choice(own_cuts(field))
    edges = dice.sample(cut, dice.randint(0, len(cut))) + (dice.sample(sorted(own_rim(field)), 2) if rim else [])
    return tuple(sorted(edges))


def as_tuples(value):
    return tuple(map(as_tuples, value)) if isinstance(value, (list, tuple)) else value


class Loose(unittest.TestCase):
    def test_beside_own_crossings(self):
        dice = random.Random(423)
        for field in FIELDS:
            for rim in (False, True, False, True):
                edges = held_together(dice, field, rim)
                wanted = tuple(spot for spot, lot in own_free(field, edges).items() if len(lot) > 1)
                self.assertEqual(told(held.loose(field, edges)), told(wanted))
                self.assertEqual(held.loose(field, [[list(dot) for dot in edge] for edge in edges]), wanted)

    def test_with_none_and_with_all(self):
        for field in FIELDS:
            several = tuple(spot for spot, lot in own_lots(field).items() if len(lot) > 1)
            self.assertEqual(told(held.loose(field, ())), told(several))
            self.assertEqual(told(held.loose(field, tuple(sorted(own_rim(field))))), told(several))
            self.assertEqual(told(held.loose(field, own_completed(field))), told(()))

    def test_just_these_are_turned_by_plans_that_leave_them(self):
        dice = random.Random(424)
        for field in FIELDS[:25]:
            edges = held_together(dice, field, False)
            cut = own_completed(field, edges)
            reached = steps_leaving(field, cut, edges)
            self.assertEqual(sorted(reached), [own for own in own_cuts(field) if set(edges) <= set(own)])
            turned = {spot for own in reached for spot, far in own_net(field)[own].items() if far in reached}
            self.assertEqual(held.loose(field, edges), tuple(sorted(turned)))


class Turns(unittest.TestCase):
    def test_beside_own_turns(self):
        dice = random.Random(425)
        for field, cut, _, _ in drawn(dice, 4):
            edges = tuple(sorted(dice.sample(cut, dice.randint(0, len(cut)))))
            wanted = tuple(spot for spot in sorted(own_turns(field, cut)) if spot not in [middle(edge) for edge in edges])
            self.assertEqual(told(held.turns_held(field, cut, edges)), told(wanted))
            self.assertEqual(told(held.turns_held(list(field), list(cut), [list(edge) for edge in edges])), told(wanted))
            self.assertEqual(held.turns_held(field, cut, cut), ())
            self.assertEqual(held.turns_held(field, cut, ()), tuple(sorted(own_turns(field, cut))))

    def test_none_only_without_loose_middles(self):
        dice = random.Random(426)
        for field in FIELDS:
            edges = held_together(dice, field, False)
            cut = dice.choice([own for own in own_cuts(field) if set(edges) <= set(own)])
            self.assertEqual(held.turns_held(field, cut, edges) == (), held.loose(field, edges) == ())


class Plans(unittest.TestCase):
    def test_in_both(self):
        for field, cut, other, _ in drawn(random.Random(427), 5):
            self.assertEqual(told(held.in_both(field, cut, other)), told(tuple(common(cut, other))))

    def test_fewest_and_a_plan(self):
        for field, cut, other, edges in drawn(random.Random(428), 6):
            many = steps_leaving(field, cut, edges)[other]
            self.assertEqual(told(held.fewest_held(field, cut, other, edges)), told(many))
            plan = held.plan_held(field, cut, other, edges)
            self.assertEqual(told(plan)[0], "tuple")
            self.assertEqual(len(plan), many)
            self.assertTrue(leads(field, cut, other, edges, plan))
            self.assertIs(held.is_held_plan(field, cut, other, edges, plan), True)
            self.assertEqual(held.fewest_held(list(field), list(cut), list(other), list(edges)), many)

    def test_with_all_that_both_have(self):
        for field, cut, other, _ in drawn(random.Random(429), 4):
            edges = tuple(common(cut, other))
            self.assertEqual(held.fewest_held(field, cut, other, edges), own_steps(field, cut)[other])
            self.assertTrue(leads(field, cut, other, edges, held.plan_held(field, cut, other, edges)))

    def test_other_plans(self):
        dice = random.Random(430)
        seen = {True: 0, False: 0}
        for field, cut, other, edges in drawn(dice, 5):
            plan = held.plan_held(field, cut, other, edges)
            things = [drawn_plan(dice, field, cut, dice.randint(0, 6))[0] for _ in range(3)]
            for at in range(4):
                # By another CUT and back: maybe with a held EDGE turned on the way.
                way, along = drawn_plan(dice, field, cut, at)
                things += [way + way[::-1] + plan, plan + drawn_plan(dice, field, other, at)[0]]
                if set(edges) <= set(along[-1]):
                    things.append(way + held.plan_held(field, along[-1], other, edges))
            shuffled = list(plan)
            dice.shuffle(shuffled)
            for thing in things + [tuple(shuffled), plan[::-1], plan[1:], plan + plan[-1:] * 2]:
                wanted = leads(field, cut, other, edges, thing)
                seen[wanted] += 1
                self.assertIs(held.is_held_plan(field, cut, other, edges, thing), wanted)
        self.assertGreater(min(seen.values()), 300)

    def test_one_that_turns_a_held_edge_and_back(self):
        seen = 0
        for field, cut, _, _ in drawn(random.Random(431), 2):
            for spot in own_turns(field, cut):
                edges = tuple(edge for edge in cut if middle(edge) == spot)
                self.assertIs(held.is_held_plan(field, cut, cut, (), (spot, spot)), True)
                self.assertIs(held.is_held_plan(field, cut, cut, edges, (spot, spot)), False)
                self.assertIs(held.is_held_plan(field, cut, cut, edges, ()), True)
                seen += 1
        self.assertGreater(seen, 50)

    def test_things_that_are_none(self):
        for field, cut, other, edges in drawn(random.Random(432), 2):
            plan = held.plan_held(field, cut, other, edges)
            for thing in (list(plan), None, True, 7, "plan", (plan,), plan + (None,), plan + ((1, 2, 3),), plan + ((0, 0),), plan + ("ab",),
                          plan[:-1] + ([1, 1],), tuple(list(spot) for spot in plan), with_bools(plan), plan + ((True, True),), (((),),)):
                if told(thing) != told(plan):
                    self.assertIs(held.is_held_plan(field, cut, other, edges, thing), False, thing)

    def test_last_turns_beside_a_search(self):
        for field, cut, other, _ in drawn(random.Random(433), 8):
            steps = own_steps(field, cut)
            wanted = tuple(spot for spot, near in sorted(own_net(field)[other].items()) if steps[near] < steps[other])
            self.assertEqual(told(held.last_turns(field, cut, other)), told(wanted))
            self.assertEqual(wanted == (), cut == other)

    def test_great_fields(self):
        dice = random.Random(434)
        for field in GREAT:
            cut = own_completed(field)
            other = drawn_plan(dice, field, cut, 30)[1][-1]
            edges = tuple(common(cut, other))
            arms = {middle(edge): (edge[1][0] - edge[0][0], edge[1][1] - edge[0][1]) for edge in other}
            many = sum(own_length((bx - ax, by - ay), arms[ax + bx, ay + by]) for (ax, ay), (bx, by) in cut)
            self.assertEqual((held.in_both(field, cut, other), held.fewest_held(field, cut, other, edges)), (edges, many))
            plan = held.plan_held(field, cut, other, edges)
            self.assertEqual(len(plan), many)
            own = set(cut)
            for spot in plan:
                turned, come = next(edge for edge in own if middle(edge) == spot), own_turns(field, tuple(sorted(own)))[spot]
                self.assertNotIn(turned, edges)
                own = own - {turned} | {come}
            self.assertEqual(own, set(other))


class Errors(unittest.TestCase):
    def functions(self):
        """Each function with HELD EDGES and two CUTS, as one of (field, cut, other, edges)."""
        return [held.fewest_held, held.plan_held, lambda *args: held.is_held_plan(*args, None),
                lambda *args: held.is_held_plan(*args, ((1, 1),))]

    def no_edge(self, edge, function, *args):
        with self.assertRaises(NoEdge) as caught:
            function(*args)
        self.assertEqual(told(caught.exception.edge), told(edge))

    def test_no_edge_for_the_first_one(self):
        dice = random.Random(435)
        seen = [0, 0]
        for field, cut, other, _ in drawn(dice, 5):
            third = dice.choice([cut, other, dice.choice(own_cuts(field))])
            edges = tuple(sorted(dice.sample(third, dice.randint(0, len(third))) + dice.sample(sorted(own_rim(field)), dice.randint(0, 1))))
            lacking = [edge for edge in edges if edge not in common(cut, other)]
            as_lists = [[list(dot) for dot in edge] for edge in edges]
            for function in self.functions() if lacking else []:
                self.no_edge(lacking[0], function, field, cut, other, edges)
                self.no_edge(lacking[0], function, field, other, cut, as_lists)
            if [edge for edge in edges if edge not in cut]:
                self.no_edge([edge for edge in edges if edge not in cut][0], held.turns_held, field, cut, as_lists)
            seen[bool(lacking)] += 1
        self.assertGreater(min(seen), 20)

    def test_rim_edges(self):
        for field in FIELDS[:12]:
            cut, rim = own_completed(field), tuple(sorted(own_rim(field)))
            for edge in rim:
                for function in self.functions():
                    self.no_edge(edge, function, field, cut, cut, (edge,))
                self.no_edge(edge, held.turns_held, field, cut, (edge,))
            self.assertEqual(held.loose(field, rim), held.loose(field, ()))

    def test_unfit_ahead_of_no_edge(self):
        up, down, cut = ((0, 0), (1, 1)), ((0, 1), (1, 0)), own_cuts(BLOCK)[0]
        other, far = own_cuts(BLOCK)[-1], own_cuts(ELL)[0]
        wrong_held = [(up, down), (((1, 0), (1, 1)), up), (up, up), (up[::-1],), (((0, 0), (2, 2)),), (((0, 0), (1, 2)),), (up, None), None, 5, up,
                      (((2, 0), (3, 1)),), "ab", (up, ((1, 0), (1, True)))]
        for own in wrong_held:
            for function in self.functions():
                with self.assertRaises(Unfit):
                    function(BLOCK, cut, other, own)
            for call in ((held.loose, BLOCK, own), (held.turns_held, BLOCK, cut, own)):
                with self.assertRaises(Unfit):
                    call[0](*call[1:])
        for one, two in ((far, cut), (cut, far), (cut[1:], cut), (cut, cut[::-1]), (None, cut), (cut, 5), (cut, ())):
            for function in self.functions():
                with self.assertRaises(Unfit):
                    function(BLOCK, one, two, (((0, 0), (0, 1)),))
            for function in (held.in_both, held.last_turns):
                with self.assertRaises(Unfit):
                    function(BLOCK, one, two)
        for field in (None, BLOCK[::-1], ELL, 5):
            for function in self.functions():
                with self.assertRaises(Unfit):
                    function(field, cut, other, (((0, 0), (0, 1)),))
            with self.assertRaises(Unfit):
                held.turns_held(field, cut, ())
        with self.assertRaises(Unfit):
            held.turns_held(BLOCK, far, (((0, 0), (0, 1)),))
        with self.assertRaises(Unfit):
            held.loose(BLOCK[::-1], ())

    def test_edges_of_another_field(self):
        dice = random.Random(436)
        for field in FIELDS:
            edge = random_edge(dice, 3, 2)
            if edge not in own_rim(field) and not any(edge in lot for lot in own_lots(field).values()):
                with self.assertRaises(Unfit):
                    held.loose(field, (edge,))
        for field in FIELDS[:20]:
            edges = [edge for lot in own_lots(field).values() for edge in lot]
            pairs = [(one, two) for one in edges for two in edges if one < two and own_cross(one, two)]
            for pair in dice.sample(pairs, min(2, len(pairs))):
                with self.assertRaises(Unfit):
                    held.loose(field, pair)

    def test_bent_cuts(self):
        dice = random.Random(437)
        for field in FIELDS[:15]:
            cut = own_completed(field)
            for own in bent(dice, field, cut):
                # With lists for tuples it may be the CUT.
                if told(as_tuples(own)) != told(cut):
                    with self.assertRaises(Unfit):
                        held.in_both(field, own, cut)
                    with self.assertRaises(Unfit):
                        held.last_turns(field, cut, own)


class Guarantees(unittest.TestCase):
    def test_sheared(self):
        dice = random.Random(438)
        for field, cut, other, edges in drawn(dice, 1):
            shear = drawn_shear(dice)
            far = [sheared_field(field, shear)] + [sheared_edges(own, shear) for own in (cut, other, edges)]
            self.assertEqual(held.fewest_held(*far), held.fewest_held(field, cut, other, edges))
            self.assertEqual(len(held.loose(far[0], far[3])), len(held.loose(field, edges)))


if __name__ == "__main__":
    unittest.main()
