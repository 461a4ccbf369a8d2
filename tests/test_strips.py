"""[19]: STRIPS, whose CUTS are ROWS of words."""

import random
import unittest
from functools import lru_cache
from itertools import permutations
from math import comb

from middledots import strips
from middledots.errors import Broken, Unfit
from middledots.fewest import fewest, first_turns
from middledots.middles import median_cut
from tests.cutting import own_cuts, own_net, own_steps
from tests.helpers import told

SMALL = [(below, above) for below in range(1, 6) for above in range(1, 6) if below + above < 8]
GREAT = [(29, 29), (57, 1), (1, 57), (30, 28), (12, 20)]


def corners(strip):
    below, above = strip
    return ((0, 0), (below, 0), (above, 1), (0, 1))


@lru_cache(maxsize=None)
def own_rows(strip):
    """All ROWS of strip, ascending by comparison."""
    below, above = strip
    return sorted(set(permutations(("below",) * below + ("above",) * above)))


def own_cut(row):
    """The CUT of row: from the left side on, a dot goes on at each word."""
    lower, upper, found = (0, 0), (0, 1), []
    for word in row[:-1]:
        if word == "below":
            lower = (lower[0] + 1, 0)
        else:
            upper = (upper[0] + 1, 1)
        found.append(tuple(sorted([lower, upper])))
    return tuple(sorted(found))


def own_counts(row):
    return [row[:at].count("below") for at in range(1, len(row))]


def own_turned(row, spot):
    """The ROW behind an exchange of two words side by side; None if there is none."""
    place, one = spot
    if one != 1 or not 1 <= place < len(row) or row[place - 1] == row[place]:
        return None
    return row[:place - 1] + (row[place], row[place - 1]) + row[place + 1:]


def drawn_row(dice, strip):
    below, above = strip
    row = ["below"] * below + ["above"] * above
    dice.shuffle(row)
    return tuple(row)


def some_rows(dice, many):
    """Pairs (row, other) of one STRIP: so many of each small STRIP, and of each great one."""
    return [(drawn_row(dice, strip), drawn_row(dice, strip)) for strip in SMALL + GREAT for _ in range(many)]


class Strips(unittest.TestCase):
    def test_fields(self):
        for strip in SMALL + GREAT:
            self.assertEqual(told(strips.strip_field(strip)), told(corners(strip)))
            self.assertEqual(told(strips.strip_field(list(strip))), told(corners(strip)))

    def test_what_is_a_strip(self):
        for thing in ((1, 1), (2, 1), (1, 57), (10 ** 9, 10 ** 30)):
            self.assertIs(strips.is_strip(thing), True)
        for thing in ([1, 1], (0, 1), (1, 0), (-1, 2), (1,), (1, 1, 1), (True, 1), (1, True), None, 1, "ab", (1, "1"), ((1, 1),), (), (1.0, 2)):
            self.assertIs(strips.is_strip(thing), False, thing)

    def test_what_is_a_row(self):
        for strip in SMALL:
            for row in own_rows(strip)[:20]:
                self.assertIs(strips.is_strip_row(row), True)
                self.assertIs(strips.is_strip_row(list(row)), False)
        for thing in ((), ("below",), ("above", "above"), "below", ("below", "above", "Below"), ("below", "above", 1), None, True, 5,
                      ("below", "above", None), (("below",), "above"), ("below", "above", ("above",)), ("below above",), ("b", "a"),
                      ("below", "above", "")):
            self.assertIs(strips.is_strip_row(thing), False, thing)
        self.assertIs(strips.is_strip_row(("below",) * 5000 + ("above",)), True)

    def test_rows_and_cuts_there_and_back(self):
        for strip in SMALL:
            self.assertEqual(sorted(map(own_cut, own_rows(strip))), own_cuts(corners(strip)))
            for row in own_rows(strip):
                self.assertEqual(told(strips.cut_of_row(row)), told(own_cut(row)))
                self.assertEqual(told(strips.row_of(strip, own_cut(row))), told(row))
                self.assertEqual(told(strips.strip_of(row)), told(strip))

    def test_great_ones(self):
        dice = random.Random(341)
        for row, _ in some_rows(dice, 5):
            strip = (row.count("below"), row.count("above"))
            self.assertEqual(told(strips.cut_of_row(list(row))), told(own_cut(row)))
            self.assertEqual(told(strips.row_of(list(strip), [list(edge) for edge in own_cut(row)])), told(row))
            self.assertEqual(told(strips.strip_of(list(row))), told(strip))


class Many(unittest.TestCase):
    def test_many_rows(self):
        for strip in SMALL:
            self.assertEqual(told(strips.many_rows(strip)), told(len(own_rows(strip))))
        for below, above in GREAT:
            self.assertEqual(told(strips.many_rows((below, above))), told(comb(below + above, below)))

    def test_rows_off_beside_a_list_of_all(self):
        for strip in SMALL:
            below, above = strip
            first = own_cut(("below",) * below + ("above",) * above)
            steps = list(own_steps(corners(strip), first).values())
            for many in range(below * above + 3):
                self.assertEqual(told(strips.rows_off(strip, many)), told(steps.count(many)))

    def test_rows_off_of_great_ones(self):
        for below, above in GREAT:
            told_ones = [strips.rows_off((below, above), many) for many in range(below * above + 2)]
            self.assertEqual(sum(told_ones), comb(below + above, below))
            self.assertEqual(told_ones[:-1], told_ones[-2::-1])
            self.assertEqual(told_ones[-1], 0)
            self.assertEqual(strips.rows_off((below, above), 10 ** 40), 0)
        # Each number is told by so many partitions, as long as none of them is too long or too broad.
        self.assertEqual([strips.rows_off((29, 29), many) for many in range(12)], [1, 1, 2, 3, 5, 7, 11, 15, 22, 30, 42, 56])

    def test_numbers_there_and_back(self):
        for strip in SMALL:
            rows = own_rows(strip)
            self.assertEqual([strips.row_number(row) for row in rows], list(range(len(rows))))
            self.assertEqual([told(strips.row_by_number(strip, number)) for number in range(len(rows))], [told(row) for row in rows])

    def test_numbers_of_great_ones(self):
        dice = random.Random(342)
        for row, other in some_rows(dice, 6):
            strip = (row.count("below"), row.count("above"))
            number = strips.row_number(row)
            self.assertEqual(strips.row_by_number(strip, number), row)
            self.assertEqual(number < strips.row_number(other), row < other)
            many = strips.many_rows(strip)
            self.assertEqual(strips.row_by_number(strip, 0), ("above",) * strip[1] + ("below",) * strip[0])
            self.assertEqual(strips.row_by_number(strip, many - 1), ("below",) * strip[0] + ("above",) * strip[1])

    def test_no_such_number(self):
        for strip in SMALL + GREAT:
            many = strips.many_rows(strip)
            for number in (many, many + 1, 10 ** 40, -1, None, True, "0", 0.0, (0,)):
                with self.assertRaises(Unfit):
                    strips.row_by_number(strip, number)


class Steps(unittest.TestCase):
    def test_beside_all_cuts(self):
        for strip in SMALL:
            for row in own_rows(strip)[::5]:
                steps = own_steps(corners(strip), own_cut(row))
                self.assertEqual([strips.row_steps(row, other) for other in own_rows(strip)],
                                 [steps[own_cut(other)] for other in own_rows(strip)])

    def test_beside_fewest_and_counts(self):
        for row, other in some_rows(random.Random(343), 5):
            many = strips.row_steps(list(row), other)
            strip = (row.count("below"), row.count("above"))
            self.assertEqual(many, sum(abs(one - two) for one, two in zip(own_counts(row), own_counts(other))))
            self.assertEqual(many, fewest(corners(strip), own_cut(row), own_cut(other)))
            self.assertEqual(told(strips.row_steps(other, row)), told(many))

    def test_turns_are_exchanges(self):
        for strip in SMALL:
            net = own_net(corners(strip))
            for row in own_rows(strip):
                wanted = {spot: own_turned(row, spot) for spot in [(place, 1) for place in range(1, len(row))]}
                self.assertEqual(net[own_cut(row)], {spot: own_cut(far) for spot, far in wanted.items() if far})

    def own_plan(self, row, other):
        plan, goal = [], own_counts(other)
        while row != other:
            for place in range(1, len(row)):
                far = own_turned(row, (place, 1))
                if far and abs(own_counts(far)[place - 1] - goal[place - 1]) < abs(own_counts(row)[place - 1] - goal[place - 1]):
                    break
            plan.append((place, 1))
            row = far
        return tuple(plan)

    def test_row_plan(self):
        dice = random.Random(344)
        for row, other in some_rows(dice, 2) + [(row, other) for strip in ((2, 2), (3, 1), (2, 3)) for row in own_rows(strip)
                                                for other in own_rows(strip)]:
            plan = strips.row_plan(row, other)
            self.assertEqual(told(plan), told(self.own_plan(row, other)))
            self.assertEqual(len(plan), strips.row_steps(row, other))
            left = row
            for spot in plan:
                left = own_turned(left, spot)
            self.assertEqual(left, other)
            self.assertEqual(told(strips.row_behind(row, plan)), told(other))

    def test_row_plan_begins_with_the_least_first_turn(self):
        for row, other in some_rows(random.Random(345), 3):
            if row != other:
                strip = (row.count("below"), row.count("above"))
                self.assertEqual(strips.row_plan(row, other)[0], first_turns(corners(strip), own_cut(row), own_cut(other))[0])

    def test_equal_rows(self):
        for row, _ in some_rows(random.Random(346), 1):
            self.assertEqual(told((strips.row_steps(row, row), strips.row_plan(row, list(row)), strips.row_behind(row, ()))),
                             told((0, (), row)))

    def test_row_behind(self):
        dice = random.Random(347)
        for row, _ in some_rows(dice, 5):
            plan, left = [], row
            for _ in range(dice.randint(0, 30)):
                plan.append(dice.choice([(place, 1) for place in range(1, len(row)) if own_turned(left, (place, 1))]))
                left = own_turned(left, plan[-1])
            self.assertEqual(told(strips.row_behind(row, plan)), told(left))
            self.assertEqual(strips.row_behind(left, tuple(plan[::-1])), row)
            alike = [(place, 1) for place in range(1, len(row)) if left[place - 1] == left[place]]
            for wrong in [(0, 1), (len(row), 1), (-1, 1), (1, 0), (1, -1), (1, 3), (1, 2), (10 ** 6, 1)] + alike[:3]:
                with self.assertRaises(Broken) as caught:
                    strips.row_behind(row, plan + [list(wrong), (1, 1)])
                self.assertEqual(told(caught.exception.place), told(len(plan)))


class Middle(unittest.TestCase):
    def test_beside_the_least_sum(self):
        dice = random.Random(348)
        for strip in SMALL:
            for many in (1, 3, 5, 7, 9):
                rows = [drawn_row(dice, strip) for _ in range(many)]
                found = strips.middle_row(rows)
                sums = sorted((sum(strips.row_steps(row, own) for row in rows), own) for own in own_rows(strip))
                self.assertEqual(told(found), told(sums[0][1]))
                self.assertEqual(own_cut(found), median_cut(corners(strip), [own_cut(row) for row in rows]))
                self.assertEqual(strips.middle_row(tuple(dice.sample(rows, many))), found)

    def test_great_ones(self):
        dice = random.Random(349)
        for strip in GREAT:
            for many in (1, 3, 9):
                rows = [drawn_row(dice, strip) for _ in range(many)]
                found = strips.middle_row([list(row) for row in rows])
                middle = [sorted(column)[many // 2] for column in zip(*map(own_counts, rows))]
                self.assertEqual(own_counts(found), middle)
                self.assertEqual(own_cut(found), median_cut(corners(strip), [own_cut(row) for row in rows]))


class Errors(unittest.TestCase):
    row, far = ("below", "below", "above"), ("above", "above", "below")

    def check(self, function, *args):
        with self.assertRaises(Unfit):
            function(*args)

    def test_no_strip(self):
        for strip in ((0, 1), (1, 0), (1,), (1, 1, 1), (True, 2), (1, "2"), None, 5, "ab", (), (-3, -3), ((1, 1),), (1.0, 1)):
            for function in (strips.strip_field, strips.many_rows):
                self.check(function, strip)
            self.check(strips.row_of, strip, own_cut(self.row))
            self.check(strips.rows_off, strip, 0)
            self.check(strips.row_by_number, strip, 0)

    def test_no_row(self):
        for row in ((), ("below",), ("above",) * 3, "below", ("below", "above", None), None, 5, True, (("below", "above"),), ("below", 1),
                    ["below", ["above"]]):
            for function in (strips.strip_of, strips.cut_of_row, strips.row_number):
                self.check(function, row)
            self.check(strips.row_behind, row, ())
            for function in (strips.row_steps, strips.row_plan):
                self.check(function, row, self.row)
                self.check(function, self.row, row)
            for rows in ((row,), (self.row, row, self.row), [self.row, self.row, row], (row, row, row)):
                self.check(strips.middle_row, rows)

    def test_rows_of_unlike_strips(self):
        for function in (strips.row_steps, strips.row_plan):
            self.check(function, self.row, self.far)
            self.check(function, self.row, self.row + ("below",))
        for rows in ((self.row, self.far, self.row), (self.row, self.row, ("above", "below")), (self.row, self.row), (), [],
                     (self.row,) * 8, None, 5, "below", self.row):
            self.check(strips.middle_row, rows)

    def test_no_cut_of_the_strip(self):
        cut = own_cut(self.row)
        for own in (cut[1:], cut[::-1], None, (), 5, own_cut(self.far), own_cut(("below", "above")), cut + cut, ((0, 0), (1, 1)), "cut"):
            self.check(strips.row_of, (2, 1), own)

    def test_no_number_of_turns(self):
        for number in (-1, None, True, "1", 1.0, (1,)):
            self.check(strips.rows_off, (2, 2), number)

    def test_no_plan(self):
        for plan in (None, 5, "ab", (1, 1), ((2, 2),), ((1, 1), (0, 0)), ((1, True),), ((1,),), ((1, 1, 1),), ((1, 1), None), ((4, -2),),
                     ((9, 9), (2, 4))):
            self.check(strips.row_behind, self.row, plan)


if __name__ == "__main__":
    unittest.main()
