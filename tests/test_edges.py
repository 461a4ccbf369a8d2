"""[9]: the edges that lie in a field, that cross, that stand beside others."""

import random
import unittest
from itertools import combinations

from middledots import edges
from middledots.errors import Crossing, NoMiddle, Unfit
from tests.helpers import (ELL, made_fields, own_cross, own_edges_in, own_lies_in, own_middles, own_rim_edges, own_way,
                           random_edge, told)

FIELDS = made_fields(91, 70, most_dots=24)


def middle(edge):
    (ax, ay), (bx, by) = edge
    return (ax + bx, ay + by)


def edges_about(dice, field, many):
    """EDGES between dots in and about the field, and some that lie in it."""
    xs, ys = [x for x, _ in field], [y for _, y in field]
    found = list(own_rim_edges(field)[:3]) + list(own_edges_in(field)[::5])
    while len(found) < many:
        x, y = dice.randint(min(xs) - 1, max(xs) + 1), dice.randint(min(ys) - 1, max(ys) + 1)
        (ax, ay), (bx, by) = random_edge(dice, 0, 3)
        found.append(((x + ax, y + ay), (x + bx, y + by)))
    return found


def own_pairs(own):
    """The pairs of unlike ones that cross, ascending."""
    return tuple(pair for pair in combinations(sorted(set(own)), 2) if own_cross(*pair))


def standing(dice, field, most):
    """Some EDGES that stand together in the field, in whatever order, some twice, rim EDGES let."""
    found = []
    choice = list(own_edges_in(field) + own_rim_edges(field))
    dice.shuffle(choice)
    for own in choice[:3 * most]:
        if len(found) < most and not any(own_cross(own, other) for other in found):
            found.append(own)
    return found + found[:1]


class LyingIn(unittest.TestCase):
    def test_beside_own_reckoning(self):
        dice = random.Random(92)
        seen = {True: 0, False: 0}
        for field in FIELDS:
            for own in edges_about(dice, field, 60):
                wanted = own_lies_in(field, own)
                seen[wanted] += 1
                self.assertIs(edges.lies_in(field, own), wanted, (field, own))
        self.assertGreater(min(seen.values()), 500)

    def test_sets_beside_own_reckoning(self):
        for field in FIELDS:
            with self.subTest(field=field):
                wanted = own_edges_in(field)
                self.assertEqual(told(edges.edges_in(field)), told(wanted))
                counts = {}
                for spot in own_middles(field):
                    there = tuple(own for own in wanted if middle(own) == spot)
                    counts[spot] = len(there)
                    self.assertGreater(len(there), 0)
                    self.assertEqual(told(edges.edges_at(field, spot)), told(there))
                    self.assertTrue(all(own_cross(*pair) for pair in combinations(there, 2)))
                most = max(counts.values(), default=0)
                self.assertEqual(told(edges.most_at(field)), told(tuple(spot for spot in counts if counts[spot] == most)))

    def test_leaving_by_a_dent_with_both_ends_in(self):
        dent = ((0, 0), (2, 1), (4, 0), (2, 3))
        for field, own in ((ELL, ((1, 2), (2, 1))), (dent, ((1, 1), (4, 0))), (dent, ((0, 0), (3, 1))),
                           (((0, 0), (3, 0), (3, 3), (2, 1), (1, 3), (0, 3)), ((1, 2), (3, 3)))):
            self.assertFalse(own_lies_in(field, own))
            self.assertIs(edges.lies_in(field, own), False)
            self.assertNotIn(own, edges.edges_in(field))

    def test_no_middle(self):
        for field in FIELDS[:40]:
            inside = set(own_middles(field))
            (x, y) = field[0]
            for dx in range(-4, 9):
                for dy in range(-4, 9):
                    spot = (2 * x + dx, 2 * y + dy)
                    if spot not in inside:
                        with self.assertRaises(NoMiddle) as caught:
                            edges.edges_at(field, list(spot))
                        self.assertEqual(told(vars(caught.exception)["middle"]), told(spot))

    def test_arms_at_a_middle_hang_together(self):
        dice = random.Random(93)
        for field in FIELDS[:40]:
            held = standing(dice, field, 2)
            for spot in own_middles(field):
                for there in (edges.edges_at(field, spot),
                              [own for own in edges.edges_beside(field, held) if middle(own) == spot]):
                    arms = {(bx - ax, by - ay) for (ax, ay), (bx, by) in there}
                    for one, two in combinations(sorted(arms), 2):
                        self.assertTrue(set(own_way(one, two)) <= arms)

    def test_a_field_of_sixty_dots(self):
        block = ((10 ** 6 - 9, -10 ** 6), (10 ** 6, -10 ** 6), (10 ** 6, 5 - 10 ** 6), (10 ** 6 - 9, 5 - 10 ** 6))
        found = edges.edges_in(block)
        self.assertEqual(found, own_edges_in(block))
        self.assertEqual(edges.stand_together(block, found), False)
        self.assertEqual(edges.first_crossing(found), next(pair for pair in combinations(found, 2) if own_cross(*pair)))


class Crossings(unittest.TestCase):
    def test_beside_own_reckoning(self):
        dice = random.Random(94)
        seen = 0
        for count in range(250):
            field = dice.choice(FIELDS)
            own = dice.sample(edges_about(dice, field, 40), dice.randint(0, 16))
            own += own[:count % 3]
            dice.shuffle(own)
            wanted = own_pairs(own)
            seen += len(wanted)
            self.assertEqual(told(edges.crossings(own)), told(wanted))
            self.assertEqual(told(edges.first_crossing(tuple(own))), told(wanted[0] if wanted else None))
        self.assertGreater(seen, 300)

    def test_none(self):
        one = ((0, 0), (1, 0))
        for own in ((), (one,), (one, one), (one, ((0, 0), (0, 1))), (one, ((1, 0), (2, 0)))):
            self.assertEqual((edges.crossings(own), edges.first_crossing(own)), ((), None))

    def test_stand_together(self):
        dice = random.Random(95)
        seen = {}
        for _ in range(500):
            field = dice.choice(FIELDS)
            own = standing(dice, field, dice.randint(0, 5))
            if dice.random() < 0.5:
                own.append(dice.choice(edges_about(dice, field, 20)))
            inside, apart = all(own_lies_in(field, edge) for edge in own), own_pairs(own) == ()
            seen[inside, apart] = seen.get((inside, apart), 0) + 1
            self.assertIs(edges.stand_together(field, own), inside and apart)
        self.assertEqual(len(seen), 4)


class Beside(unittest.TestCase):
    def test_beside_own_reckoning(self):
        dice = random.Random(96)
        for _ in range(150):
            field = dice.choice(FIELDS)
            own = standing(dice, field, dice.randint(0, 5))
            wanted = tuple(edge for edge in own_edges_in(field) if not any(own_cross(edge, other) for other in own))
            self.assertEqual(told(edges.edges_beside(field, own)), told(wanted))
            self.assertEqual({middle(edge) for edge in wanted}, set(own_middles(field)))

    def test_crossing_then_unfit(self):
        dice = random.Random(97)
        seen = {}
        for _ in range(600):
            field = dice.choice(FIELDS)
            own = standing(dice, field, 3)
            own += dice.sample(edges_about(dice, field, 20), dice.randint(1, 2))
            dice.shuffle(own)
            pairs, inside = own_pairs(own), all(own_lies_in(field, edge) for edge in own)
            seen[pairs == (), inside] = seen.get((pairs == (), inside), 0) + 1
            if pairs:
                with self.assertRaises(Crossing) as caught:
                    edges.edges_beside(field, [[list(dot) for dot in edge] for edge in own])
                self.assertEqual(sorted(vars(caught.exception)), ["edge", "other"])
                self.assertEqual(told((caught.exception.edge, caught.exception.other)), told(pairs[0]))
            elif not inside:
                with self.assertRaises(Unfit):
                    edges.edges_beside(field, own)
            else:
                self.assertEqual(set(edges.edges_beside(field, own)) & set(own), set(own) - set(own_rim_edges(field)))
        self.assertEqual(len(seen), 4)


if __name__ == "__main__":
    unittest.main()
