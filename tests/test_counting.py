"""[12]: RESTS, their tips and what is behind them; how many CUTS there are, and which number each has."""

import random
import unittest
from itertools import combinations, product
from math import comb

from middledots import counting
from middledots.errors import CanNot, Crossing, NoDot, NoMiddle, TooMany, Unfit
from tests.cutting import (middle, own_all_dots, own_completed, own_cuts, own_free, own_lots, own_rim, own_search, own_with, sides,
                           small_fields, some_of)
from tests.helpers import ELL, own_area, own_cross, own_place, told

FIELDS = small_fields(241, 40, 400)
SQUARE = ((0, 0), (1, 0), (1, 1), (0, 1))
GREAT = ((0, 0), (6, 0), (6, 5), (0, 5))


def strip(below, above):
    return ((0, 0), (below, 0), (above, 1), (0, 1))


# RESTS by the words of [12].

def own_rest_of(field):
    """The rim dots from the least one on, field to the left: from each one the rim EDGES lead on."""
    around = []
    for at in range(len(field)):
        (ax, ay), (bx, by) = field[at], field[(at + 1) % len(field)]
        on = [dot for dot in own_all_dots(field) if (bx - ax) * (dot[1] - ay) == (by - ay) * (dot[0] - ax)
              and min(ax, bx) <= dot[0] <= max(ax, bx) and min(ay, by) <= dot[1] <= max(ay, by)]
        around += sorted(on, reverse=(bx, by) < (ax, ay))[:-1]
    return tuple(around)


def own_rim_of(rest):
    return [tuple(sorted([rest[at], rest[(at + 1) % len(rest)]])) for at in range(len(rest))]


def own_sides_to(rest, dot):
    low, high = min(own_rim_of(rest))
    return [tuple(sorted([low, dot])), tuple(sorted([high, dot]))]


def own_tips(rest, dots):
    """The tips of rest, of these dots."""
    rim = own_rim_of(rest)
    low, high = min(rim)
    inner = 1 if rest[1] == high else -1
    near = [dot for dot in dots if own_area((low, high, dot)) == inner and own_place(rest, dot) != "out"]
    return tuple(dot for dot in near if not any(own_cross(side, edge) for side in own_sides_to(rest, dot) for edge in rim
                                                if side not in rim))


def own_behind(rest, dot):
    """The RESTS behind a tip: round what is left goes each rim EDGE, and each new side, that is had once."""
    low, high = min(own_rim_of(rest))
    ways = [(rest[at], rest[(at + 1) % len(rest)]) for at in range(len(rest))]
    ways.remove((low, high) if (low, high) in ways else (high, low))
    start, end = (low, high) if rest[1] == high else (high, low)
    for way in ((start, dot), (dot, end)):
        if way[::-1] in ways:
            ways.remove(way[::-1])
        else:
            ways.append(way)
    found = []
    while ways:
        part = [ways.pop(0)]
        while part[-1][1] != part[0][0]:
            # Where two parts meet at the tip, each keeps to its own side.
            onward = [way for way in ways if way[0] == part[-1][1]]
            own = onward[0] if len(onward) == 1 else part_on(part, onward, rest, dot)
            part.append(own)
            ways.remove(own)
        dots = [way[0] for way in part]
        found.append(tuple(dots[dots.index(min(dots)):] + dots[:dots.index(min(dots))]))
    return tuple(sorted(found))


def part_on(part, onward, rest, dot):
    """Which of two ways goes on from the tip: a side that is new leads to the rim's way on, and the other way about."""
    old = list(zip(rest, rest[1:] + rest[:1]))
    came_new = part[-1] not in old
    return next(way for way in onward if (way not in old) != came_new)


def own_order(rest, dots, known):
    """The sets of EDGES, inside and on the rim, of the CUTS of rest, in order."""
    if rest not in known:
        known[rest] = []
        for tip in own_tips(rest, dots):
            parts = [own_order(own, dots, known) for own in own_behind(rest, tip)]
            known[rest] += [frozenset(own_sides_to(rest, tip)).union(own_rim_of(rest), *one) for one in product(*parts)]
    return known[rest]


def own_rests(field, edges):
    """All RESTS that come."""
    first, dots = own_rest_of(field), own_all_dots(field)
    found, waiting = {first}, [first]
    while waiting:
        rest = waiting.pop()
        for tip in own_tips(rest, dots):
            if not any(own_cross(side, edge) for side in own_sides_to(rest, tip) for edge in edges):
                new = [own for own in own_behind(rest, tip) if own not in found]
                found.update(new)
                waiting += new
    return found


def way_down(dice, field):
    """Pairs (rest, tip) on a way down through the RESTS of field."""
    waiting, found = [own_rest_of(field)], []
    while waiting:
        rest = waiting.pop()
        tip = dice.choice(own_tips(rest, own_all_dots(field)))
        found.append((rest, tip))
        waiting += own_behind(rest, tip)
    return found


class Rests(unittest.TestCase):
    def test_on_the_way_down(self):
        dice = random.Random(242)
        for field in FIELDS:
            self.assertEqual(told(counting.rest_of(field)), told(own_rest_of(field)))
            for rest, tip in way_down(dice, field):
                with self.subTest(rest=rest, tip=tip):
                    self.assertIs(counting.is_rest(rest), True)
                    self.assertEqual(told(counting.base_edge(rest)), told(min(own_rim_of(rest))))
                    self.assertEqual(told(counting.tips(rest)), told(own_tips(rest, own_all_dots(field))))
                    self.assertEqual(told(counting.rests_behind(rest, tip)), told(own_behind(rest, tip)))
                    self.assertLess(sum(map(own_area, own_behind(rest, tip))), own_area(rest))

    def test_no_dot(self):
        dice = random.Random(243)
        for field in FIELDS:
            for rest, _ in way_down(dice, field)[:4]:
                x, y = rest[0]
                others = list(own_all_dots(field)) + [(x - 1, y), (x, y - 1), (10 ** 9, 0)]
                for dot in others:
                    if dot not in own_tips(rest, own_all_dots(field)):
                        with self.assertRaises(NoDot) as caught:
                            counting.rests_behind(list(rest), list(dot))
                        self.assertEqual(told(caught.exception.dot), told(dot))

    def test_what_is_a_rest(self):
        for rest in (((0, 0), (1, 0), (0, 1)), ((0, 0), (1, 0), (2, 0), (0, 1)), counting.rest_of(ELL), ((-5, 7), (-4, 7), (-4, 8)),
                     ((0, 0), (30, 29), (31, 30)), ((0, 0), (2, 1), (3, 3), (1, 2)), ((0, 0), (1, 0), (2, 0), (3, 0), (1, 1))):
            self.assertIs(counting.is_rest(rest), True, rest)
        for thing in (((0, 0), (0, 1), (1, 0)), ((1, 0), (0, 1), (0, 0)), ((0, 0), (2, 0), (0, 1)), ((0, 0), (1, 0)), (), None, 7, True,
                      "rest", ((0, 0), (1, 0), (2, 0)), ((0, 0), (1, 1), (1, 0), (0, 1)), ((0, 0), (1, 0), (0, 1), (1, 0)),
                      [(0, 0), (1, 0), (0, 1)], ([0, 0], (1, 0), (0, 1)), ((0, 0), (1, 0), (False, 1)), ((0, 0), (1, 0), (0, 1, 0)),
                      ((0, 0), (1, 0), (0, 1), None), ((0, 0), (1, 0), (0, 2)), ((0, 0), (3, 1), (0, 1), (1, 0), (2, 1)),
                      ((0, 0), (1, 0), (1, 1), (0, 0), (0, 1)), ((0, 0), (3, 2), (2, 1), (1, 1), (2, 2), (1, 2)),
                      ((0, 0), (1, 0), ("0", 1)), ((0, 0), (1, 1), (2, 3), (1, 2), (0, 1), (1, 0)),
                      ((0, 0), (1, -1), (2, 0), (1, 0), (2, 1), (1, 1), (1, 0), (0, 1))):
            self.assertIs(counting.is_rest(thing), False, thing)

    def test_ways_round_drawn_dots(self):
        dice = random.Random(244)
        seen = {True: 0, False: 0}
        for _ in range(4000):
            dots = dice.sample(list(product(range(3), range(3))), dice.randint(3, 6))
            dots = tuple(dots[dots.index(min(dots)):] + dots[:dots.index(min(dots))])
            rim = own_rim_of(dots)
            wanted = own_area(dots) > 0 and all((a + c) % 2 or (b + d) % 2 for (a, b), (c, d) in rim)
            wanted = wanted and not any(own_cross(*pair) for pair in combinations(rim, 2))
            seen[wanted] += 1
            self.assertIs(counting.is_rest(dots), wanted, dots)
        self.assertGreater(min(seen.values()), 100)

    def test_unfit(self):
        for rest in (None, (), ((0, 0), (0, 1), (1, 0)), ((0, 0), (2, 0), (0, 1)), strip(2, 1), 5, "rest"):
            for call in (counting.base_edge, counting.tips, lambda own: counting.rests_behind(own, (1, 0))):
                with self.assertRaises(Unfit):
                    call(rest)
        for dot in (None, (1,), (True, 0), "ab", (1, 0, 0)):
            with self.assertRaises(Unfit):
                counting.rests_behind(((0, 0), (1, 0), (0, 1)), dot)

    def test_of_the_whole_field_each_tip_is_a_triangle_of_some_cut(self):
        for field in FIELDS:
            base = min(own_rim(field))
            known = {cut: set(cut) | own_rim(field) for cut in own_cuts(field)}
            for tip in own_all_dots(field):
                if tip not in base:
                    own = [tuple(sorted([end, tip])) for end in base]
                    made = abs(own_area(base + (tip,))) == 1 and any(set(own) <= known[cut] for cut in known)
                    self.assertEqual(tip in counting.tips(counting.rest_of(field)), made)


class Many(unittest.TestCase):
    def test_beside_own_search(self):
        dice = random.Random(245)
        for field in FIELDS:
            self.assertEqual(told(counting.many_cuts(field, ())), told(len(own_cuts(field))))
            for _ in range(6):
                edges = some_of(dice, field, dice.choice(own_cuts(field)))
                edges = edges if dice.random() < 0.4 else edges[:3]
                self.assertEqual(told(counting.many_cuts(field, edges)), told(len(own_with(field, edges))))

    def test_many_rests_beside_own_reckoning(self):
        dice = random.Random(246)
        for field in FIELDS:
            for edges in ((), some_of(dice, field, dice.choice(own_cuts(field)))[:2], sorted(own_rim(field)), dice.choice(own_cuts(field))):
                if len(own_cuts(field)) < 200 or edges != ():
                    self.assertEqual(told(counting.many_rests(field, edges)), told(len(own_rests(field, edges))))

    def test_with_a_whole_cut(self):
        dice = random.Random(247)
        for field in FIELDS:
            cut = dice.choice(own_cuts(field))
            self.assertEqual(counting.many_cuts(field, cut[::-1] + tuple(own_rim(field))), 1)
            # Each triangle is that of the base of just one REST.
            self.assertEqual(counting.many_rests(field, cut), own_area(field))

    def test_counts_at(self):
        for field in FIELDS:
            for spot, lot in own_lots(field).items():
                found = counting.counts_at(field, spot)
                self.assertEqual(told(found), told(tuple((edge, len(own_with(field, (edge,)))) for edge in lot)))
                self.assertEqual(sum(many for _, many in found), counting.many_cuts(field, ()))

    def test_known_numbers(self):
        for below, above in ((1, 1), (5, 3), (20, 20), (25, 23), (47, 5), (1, 57), (10, 17)):
            self.assertEqual(counting.many_cuts(strip(below, above), ()), comb(below + above, below))
            wall = (tuple(sorted([(below // 2, 0), (above // 3, 1)])),)
            left, right = below // 2 + above // 3, below - below // 2 + above - above // 3
            self.assertEqual(counting.many_cuts(strip(below, above), wall), comb(left, below // 2) * comb(right, above - above // 3))
        # The squares with sides 1, 2, 3; blocks two high (the numbers of unimodular triangulations of lattice rectangles).
        self.assertEqual([counting.many_cuts(((0, 0), (n, 0), (n, n), (0, n)), ()) for n in (1, 2, 3)], [2, 64, 46456])
        self.assertEqual([counting.many_cuts(((0, 0), (n, 0), (n, 2), (0, 2)), ()) for n in (1, 2, 3, 4)], [6, 64, 852, 12170])

    def test_errors(self):
        up, down = ((0, 0), (1, 1)), ((0, 1), (1, 0))
        for function in (counting.many_cuts, counting.many_rests):
            for field, edges in ((SQUARE, (down, up)), (GREAT, (down, up, down))):
                with self.assertRaises(Crossing) as caught:
                    function(field, edges)
                self.assertEqual((caught.exception.edge, caught.exception.other), (up, down))
            for edges in ((down, up, ((0, 0), (1, 2))), (((2, 0), (3, 0)),), None, (up, None)):
                with self.assertRaises(Unfit):
                    function(SQUARE, edges)
        for spot in ((2, 2), (1, 0), (0, 0), (5, 5), (-1, 1)):
            for field in (SQUARE, GREAT):
                if spot not in own_lots(field):
                    with self.assertRaises(NoMiddle) as caught:
                        counting.counts_at(field, list(spot))
                    self.assertEqual(told(caught.exception.middle), told(spot))


class Numbers(unittest.TestCase):
    def test_in_order(self):
        for field in FIELDS:
            rim = own_rim(field)
            order = [tuple(sorted(own - rim)) for own in own_order(own_rest_of(field), own_all_dots(field), {})]
            self.assertEqual(sorted(order), own_cuts(field))
            self.assertEqual([counting.cut_by_number(field, number) for number in range(len(order))], order)
            self.assertEqual([counting.cut_number(field, cut) for cut in order], list(range(len(order))))

    def test_behind_the_last_one(self):
        for field in FIELDS:
            for number in (len(own_cuts(field)), len(own_cuts(field)) + 1, 10 ** 18, 10 ** 40):
                with self.assertRaises(CanNot):
                    counting.cut_by_number(field, number)

    def test_great_numbers(self):
        dice = random.Random(248)
        for field in (strip(24, 24), strip(20, 20), strip(9, 33), ((0, 0), (4, 0), (4, 3), (0, 3))):
            many = counting.many_cuts(field, ())
            for number in [0, many - 1] + [dice.randrange(many) for _ in range(4)]:
                cut = counting.cut_by_number(field, number)
                self.assertEqual(told(counting.cut_number(field, cut)), told(number))
                self.assertEqual(len(cut), len(own_lots(field)))
            with self.assertRaises(CanNot):
                counting.cut_by_number(field, many)

    def test_told(self):
        self.assertEqual(told(counting.cut_by_number(((0, 0), (1, 0), (0, 1)), 0)), told(()))
        self.assertEqual(told(counting.cut_number(((0, 0), (1, 0), (0, 1)), [])), told(0))
        self.assertEqual(told(counting.cut_by_number([[0, 0], [1, 0], [1, 1], [0, 1]], 1)), told(own_cuts(SQUARE)[0]))

    def test_unfit(self):
        for number in (-1, True, None, "0", 1.0, (0,)):
            with self.assertRaises(Unfit):
                counting.cut_by_number(SQUARE, number)
        for cut in ((), own_cuts(SQUARE)[0] * 2, None, (((0, 0), (1, 2)),), own_cuts(ELL)[0]):
            with self.assertRaises(Unfit):
                counting.cut_number(SQUARE, cut)


class TooManyRests(unittest.TestCase):
    def test_from_5001_on(self):
        enough, walls = strip(32, 26), (((22, 1), (26, 0)), ((24, 1), (28, 0)))
        self.assertEqual((counting.many_rests(enough, walls), len(own_rests(enough, walls))), (5000, 5000))
        self.assertGreater(counting.many_cuts(enough, walls), 10 ** 12)
        over, more = strip(27, 30), (((23, 0), (25, 1)), ((26, 0), (29, 1)))
        self.assertEqual(len(own_rests(over, more)), 5001)
        for function in (counting.many_rests, counting.many_cuts):
            with self.assertRaises(TooMany):
                function(over, more)

    def test_each_function(self):
        cut = own_completed(GREAT)
        for call in (lambda: counting.many_cuts(GREAT, ()), lambda: counting.many_rests(GREAT, ()),
                     lambda: counting.counts_at(GREAT, (1, 1)), lambda: counting.cut_number(GREAT, cut),
                     lambda: counting.cut_by_number(GREAT, 0), lambda: counting.cut_by_number(GREAT, 10 ** 60)):
            with self.assertRaises(TooMany):
                call()

    def test_with_edges_fewer_come(self):
        cut = own_completed(GREAT)
        self.assertEqual((counting.many_cuts(GREAT, cut), counting.many_rests(GREAT, cut)), (1, own_area(GREAT)))
        self.assertEqual(counting.many_cuts(GREAT, cut[1:]), len(own_search(GREAT, list(own_free(GREAT, cut[1:]).values()), 100)))

    def test_with_any_one_of_the_edges(self):
        # Too many with a short EDGE at a MIDDLE, few with the longest ones there.
        field = ((0, 0), (6, 0), (6, 3), (0, 3))
        lot = own_lots(field)[7, 3]
        outcomes = {}
        for edge in lot:
            try:
                outcomes[edge] = counting.many_rests(field, (edge,))
            except TooMany:
                outcomes[edge] = None
        self.assertEqual({many is None for many in outcomes.values()}, {True, False})
        with self.assertRaises(TooMany):
            counting.counts_at(field, (7, 3))


class Guarantees(unittest.TestCase):
    def test_each_cut_has_one_tip(self):
        for field in FIELDS:
            rest = own_rest_of(field)
            base, rim = min(own_rim_of(rest)), own_rim(field)
            for cut in own_cuts(field)[:50]:
                has = [tip for tip in counting.tips(rest) if set(sides(tuple(sorted(base + (tip,))))) <= set(cut) | rim]
                self.assertEqual(len(has), 1)

    def test_middles_of_the_edges_told(self):
        for field in FIELDS[:10]:
            for spot in own_lots(field):
                self.assertEqual({middle(edge) for edge, _ in counting.counts_at(list(field), list(spot))}, {spot})


if __name__ == "__main__":
    unittest.main()
