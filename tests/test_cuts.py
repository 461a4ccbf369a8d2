"""[10]: what is a CUT, its EDGES and triangles, CUTS completed and told by triangles."""

import random
import unittest
from itertools import combinations

from middledots import cuts
from middledots.errors import CanNot, Crossing, NoMiddle, Unfit
from tests.cutting import (bent, drawn_shear, middle, own_completed, own_cuts, own_far_dots, own_free, own_lots, own_rim,
                           own_triangles, sheared_edges, sheared_field, sides, small_fields, some_of)
from tests.helpers import ELL, made_fields, own_area, own_cross, told

FIELDS = small_fields(201, 45, 500)
# Too many CUTS of these, maybe, to find them all.
GREAT = [field for field in made_fields(202, 40, 6, 60) if len(own_lots(field)) > 20]


def first_cut(dice, field):
    """A CUT of field: EDGES laid to one another, in whatever order, as long as one crosses none."""
    found = []
    order = [edge for lot in own_lots(field).values() for edge in lot]
    dice.shuffle(order)
    for edge in order:
        if not any(own_cross(edge, other) for other in found):
            found.append(edge)
    return tuple(sorted(found))


def some_cuts(dice, many):
    """Triples (field, cut, another cut): of small FIELDS, and of great ones."""
    found = [(field, dice.choice(own_cuts(field)), dice.choice(own_cuts(field))) for field in FIELDS for _ in range(many)]
    return found + [(field, first_cut(dice, field), first_cut(dice, field)) for field in GREAT[:12]]


class IsCut(unittest.TestCase):
    def test_all_cuts_are(self):
        dice = random.Random(203)
        for field in FIELDS:
            for cut in dice.sample(own_cuts(field), min(40, len(own_cuts(field)))):
                self.assertIs(cuts.is_cut(field, cut), True)
        for field in GREAT:
            self.assertIs(cuts.is_cut(field, first_cut(dice, field)), True)

    def test_bent_ones_are_not(self):
        dice = random.Random(204)
        for field, cut, _ in some_cuts(dice, 3):
            for own in bent(dice, field, cut):
                with self.subTest(field=field, own=own):
                    self.assertIs(cuts.is_cut(field, own), False)

    def test_sets_of_edges_beside_all_cuts(self):
        dice = random.Random(205)
        seen = {True: 0, False: 0}
        for field in FIELDS:
            known = set(own_cuts(field))
            for _ in range(30):
                own = tuple(sorted(dice.choice(lot) for lot in own_lots(field).values()))
                seen[own in known] += 1
                self.assertIs(cuts.is_cut(field, own), own in known)
        self.assertGreater(min(seen.values()), 100)

    def test_of_another_field(self):
        dice = random.Random(206)
        for field, other in zip(FIELDS, FIELDS[1:] + FIELDS[:1]):
            cut = dice.choice(own_cuts(field))
            self.assertIs(cuts.is_cut(other, cut), cut in own_cuts(other))

    def test_out_of_the_field_by_a_dent(self):
        # One at each MIDDLE, of which no two cross, but that at (3, 3), no MIDDLE of ELL, stands in the place of one.
        self.assertIs(cuts.is_cut(ELL, (((0, 0), (1, 1)), ((0, 1), (1, 1)), ((0, 1), (1, 2)), ((1, 0), (1, 1)), ((1, 2), (2, 1)))), False)
        self.assertIs(cuts.is_cut(ELL, (((0, 0), (1, 1)), ((0, 1), (1, 1)), ((0, 1), (1, 2)), ((1, 0), (1, 1)), ((1, 0), (2, 1)))), True)

    def test_things_of_every_kind(self):
        deep = ()
        for _ in range(20):
            deep = (deep, [None, "ab", True])
        many = tuple(((at, 0), (at, 1)) for at in range(3000))
        for thing in (deep, many, list(own_cuts(ELL)[0]), ((0, 0), (1, 0)), "cut", -5, False, (None,) * 5, ((),) * 5,
                      (((0, 0), (1, True)),) * 5, tuple((dot, (10 ** 30, at)) for at, dot in enumerate(ELL[:5])),
                      ((("0", 0), (1, 1)),) * 5, (((0, 0, 0), (1, 1)),) * 5):
            self.assertIs(cuts.is_cut(ELL, thing), False)
        self.assertIs(cuts.is_cut(((0, 0), (1, 0), (0, 1)), ()), True)
        self.assertIs(cuts.is_cut(((0, 0), (1, 0), (0, 1)), []), False)

    def test_true_is_no_number(self):
        field = ((0, 0), (1, 0), (1, 1), (0, 1))
        self.assertIs(cuts.is_cut(field, (((0, 0), (1, 1)),)), True)
        self.assertIs(cuts.is_cut(field, (((False, 0), (1, 1)),)), False)
        self.assertIs(cuts.is_cut(field, (((0, 0), (1, True)),)), False)


class Completed(unittest.TestCase):
    def test_beside_own_choosing(self):
        dice = random.Random(207)
        for field, cut, _ in some_cuts(dice, 4):
            for edges in (some_of(dice, field, cut), some_of(dice, field, cut)[:2], (), cut, sorted(own_rim(field))):
                wanted = own_completed(field, edges)
                self.assertEqual(told(cuts.completed(field, edges)), told(wanted))
                self.assertIs(cuts.is_cut(field, wanted), True)
                self.assertEqual(told(cuts.completed(field, [[list(dot) for dot in edge] for edge in edges])), told(wanted))

    def test_least_with_no_edges(self):
        for field in FIELDS:
            self.assertEqual(cuts.completed(field, ()), own_completed(field, ()))

    def test_crossing_told_by_the_least_pair(self):
        dice = random.Random(208)
        seen = 0
        for field, cut, other in some_cuts(dice, 4):
            edges = list(some_of(dice, field, cut) + some_of(dice, field, other))
            dice.shuffle(edges)
            pairs = [pair for pair in combinations(sorted(set(edges)), 2) if own_cross(*pair)]
            if pairs:
                seen += 1
                with self.assertRaises(Crossing) as caught:
                    cuts.completed(field, edges)
                self.assertEqual(told((caught.exception.edge, caught.exception.other)), told(pairs[0]))
        self.assertGreater(seen, 50)

    def test_unfit_ahead_of_crossing(self):
        across = (((0, 0), (1, 1)), ((0, 1), (1, 0)))
        for far in (((1, 2), (2, 1)), ((5, 5), (6, 5)), ((0, 0), (2, 2)), ((1, 0), (0, 0)), None):
            for edges in (across + (far,), (far,) + across, (far,)):
                with self.assertRaises(Unfit):
                    cuts.completed(ELL, edges)
        with self.assertRaises(Crossing):
            cuts.completed(ELL, across)


class Parts(unittest.TestCase):
    def test_triangles_beside_own_reckoning(self):
        dice = random.Random(209)
        for field, cut, _ in some_cuts(dice, 4):
            with self.subTest(field=field, cut=cut):
                found = cuts.triangles(field, cut)
                self.assertEqual(told(found), told(own_triangles(field, cut)))
                self.assertEqual(len(found), own_area(field))
                self.assertEqual(3 * len(found), 2 * len(cut) + len(own_rim(field)))
                beside = {}
                for own in found:
                    self.assertEqual(abs(own_area(own)), 1)
                    for edge in sides(own):
                        beside[edge] = beside.get(edge, 0) + 1
                self.assertEqual(beside, {**{edge: 2 for edge in cut}, **{edge: 1 for edge in own_rim(field)}})

    def test_edge_in_and_far_dots(self):
        dice = random.Random(210)
        for field, cut, _ in some_cuts(dice, 2):
            for edge in dice.sample(cut, min(6, len(cut))):
                self.assertEqual(told(cuts.edge_in(field, cut, middle(edge))), told(edge))
                self.assertEqual(told(cuts.far_dots(field, cut, middle(edge))), told(own_far_dots(field, cut, edge)))

    def test_no_middle(self):
        dice = random.Random(211)
        for field, cut, _ in some_cuts(dice, 2):
            x, y = dice.choice(field)
            spots = [(2 * x + dx, 2 * y + dy) for dx in range(-2, 3) for dy in range(-2, 3)] + [(0, 0), (10 ** 9, 1)]
            for spot in spots:
                for function in (cuts.edge_in, cuts.far_dots):
                    if spot not in own_lots(field):
                        with self.assertRaises(NoMiddle) as caught:
                            function(field, list(cut), list(spot))
                        self.assertEqual(told(caught.exception.middle), told(spot))

    def test_three_sides(self):
        dice = random.Random(212)
        for field, cut, _ in some_cuts(dice, 1):
            for own in own_triangles(field, cut)[:8]:
                found = cuts.three_sides(own)
                self.assertEqual(told(found), told(tuple(sorted(sides(own)))))
                squares = sorted((c - a) ** 2 + (d - b) ** 2 for (a, b), (c, d) in found)
                self.assertLess(squares[1], squares[2])

    def test_three_sides_of_what_is_no_such_triple(self):
        good = ((0, 0), (1, 0), (2, 1))
        for own in (good[::-1], (good[1], good[0], good[2]), ((0, 0), (1, 0), (2, 0)), ((0, 0), (1, 0), (1, 2)), good[:2],
                    good + ((3, 1),), ((0, 0), (0, 0), (1, 1)), ((0, 0), (1, 0), (True, 1)), "abc", None, 7, (1, 2, 3), (good,)):
            with self.assertRaises(Unfit):
                cuts.three_sides(own)
        self.assertEqual(cuts.three_sides([[0, 0], [1, 0], [2, 1]]), cuts.three_sides(good))


class CutOf(unittest.TestCase):
    def test_of_triangles_told(self):
        dice = random.Random(213)
        for field, cut, _ in some_cuts(dice, 4):
            own = own_triangles(field, cut)
            self.assertEqual(told(cuts.cut_of(field, own)), told(cut))
            self.assertEqual(told(cuts.cut_of(list(field), [[list(dot) for dot in part] for part in own])), told(cut))

    def test_of_fewer_and_others(self):
        dice = random.Random(214)
        for field, cut, other in some_cuts(dice, 3):
            own, far = own_triangles(field, cut), own_triangles(field, other)
            at = dice.randrange(len(own))
            (ax, ay), (bx, by), (cx, cy) = own[at]
            moved = tuple((x + 1000, y) for x, y in own[at])
            others = [own[:at] + own[at + 1:], (), tuple(sorted(own + (moved,))), tuple(sorted(own[:at] + own[at + 1:] + (moved,)))]
            for parts in others + ([tuple(sorted(set(own + far)))] if cut != other else []):
                with self.subTest(field=field, parts=parts), self.assertRaises(CanNot):
                    cuts.cut_of(field, parts)

    def test_of_triangles_of_two_cuts(self):
        dice = random.Random(217)
        seen = {True: 0, False: 0}
        for field in FIELDS:
            known = {own_triangles(field, cut): cut for cut in own_cuts(field)}
            for _ in range(20):
                own, far = dice.choice(list(known)), dice.choice(list(known))
                at = dice.randrange(len(own))
                parts = tuple(sorted(set(own[:at] + far[at:])))
                seen[parts in known] += 1
                if parts in known:
                    self.assertEqual(cuts.cut_of(field, parts), known[parts])
                else:
                    with self.assertRaises(CanNot):
                        cuts.cut_of(field, parts)
        self.assertGreater(min(seen.values()), 100)

    def test_of_what_is_no_set_of_such_triples(self):
        own = own_triangles(ELL, own_cuts(ELL)[0])
        for parts in (own[::-1], own + own[-1:], own[:1] + own, (own,), own[:5] + (((0, 0), (1, 0), (2, 0)),), own[:5] + ((0, 0),),
                      own[:5] + (own[5][::-1],), None, 7, True, "abc", own[0], own[:5] + (None,)):
            with self.assertRaises(Unfit):
                cuts.cut_of(ELL, parts)

    def test_each_set_of_two_triangles_of_a_square(self):
        field = ((0, 0), (1, 0), (1, 1), (0, 1))
        parts = list(combinations(field[:2] + field[:1:-1], 3))
        found = {}
        for pair in combinations(sorted(tuple(sorted(part)) for part in parts), 2):
            try:
                found[pair] = cuts.cut_of(field, pair)
            except CanNot:
                found[pair] = None
        self.assertEqual(sorted(cut for cut in found.values() if cut), own_cuts(field))
        self.assertEqual(len([cut for cut in found.values() if cut is None]), 4)


class Guarantees(unittest.TestCase):
    def test_sheared(self):
        dice = random.Random(215)
        for field in FIELDS[:25]:
            shear = drawn_shear(dice)
            cut = dice.choice(own_cuts(field))
            far = sheared_field(field, shear)
            self.assertIs(cuts.is_cut(far, sheared_edges(cut, shear)), True)
            self.assertEqual(cuts.triangles(far, sheared_edges(cut, shear)), sheared_edges(own_triangles(field, cut), shear))

    def test_no_edge_can_be_laid_to_a_cut(self):
        dice = random.Random(216)
        for field, cut, _ in some_cuts(dice, 1):
            self.assertEqual({spot: tuple(lot) for spot, lot in own_free(field, cut).items()}, {middle(edge): (edge,) for edge in cut})

    def test_a_cut_of_the_greatest_fields(self):
        for field in (((0, 0), (9, 0), (9, 5), (0, 5)), ((0, 0), (29, 0), (29, 1), (0, 1)), ((0, 0), (9, 0), (0, 9)),
                      ((-10 ** 6, 10 ** 6 - 5), (9 - 10 ** 6, 10 ** 6 - 5), (9 - 10 ** 6, 10 ** 6), (-10 ** 6, 10 ** 6))):
            cut = cuts.completed(field, ())
            self.assertEqual(cuts.cut_of(field, cuts.triangles(field, cut)), cut)
            self.assertEqual(cuts.triangles(field, cut), own_triangles(field, cut))
            self.assertIs(cuts.is_cut(field, cut), True)


if __name__ == "__main__":
    unittest.main()
