"""[17]: texts of SHEETS, written and read, and pictures of FIELDS."""

import random
import re
import unittest
from fractions import Fraction
from math import gcd

from middledots import texts
from middledots.errors import BadText, TooMany, Unfit
from tests.cutting import arm, drawn_plan, drawn_shear, middle, own_completed, own_lots, own_rim, sheared_field, small_fields
from tests.helpers import ELL, made_fields, own_cross, own_field, own_lies_in, own_place, random_edge, told

FIELDS = made_fields(401, 60)
SMALL = small_fields(402, 30, 200)
GREAT = ((-999999999999, -7), (999999999999, -999999999998), (123456789012, 999999999999))
SQUARE = ((0, 0), (2, 0), (2, 2), (0, 2))


# Ways of writing, reading and drawing of the tests' own.

def own_text(sheet):
    """The text of a SHEET, row by row."""
    field, edges, plan = sheet
    text = "field"
    for x, y in field:
        text += " %d %d" % (x, y)
    text += "\n"
    for (ax, ay), (bx, by) in edges:
        text += "edge %d %d %d %d\n" % (ax, ay, bx, by)
    for x, y in plan:
        text += "turn %d %d\n" % (x, y)
    return text


def own_read(text):
    """("sheet", SHEET) or ("bad", line)."""
    lines = [line.split("#")[0] for line in text.split("\n")]
    for at, line in enumerate(lines):
        if not re.fullmatch("[a-z0-9 -]*", line):
            return ("bad", at)
    number = "(0|-?[1-9][0-9]{0,11})"
    field, edges, plan = None, [], []
    for at, line in enumerate(lines):
        row = " ".join(line.split())
        numbers = [int(word) for word in row.split()[1:] if re.fullmatch(number, word)]
        dots = tuple(zip(numbers[::2], numbers[1::2]))
        if row == "":
            continue
        if re.fullmatch("field( %s %s){3,}" % (number, number), row) and field is None and own_field(dots) == dots:
            field = dots
        elif re.fullmatch("edge( %s){4}" % number, row) and field and not plan and own_is_edge(dots) and dots > max(edges, default=()):
            edges.append(dots)
        elif re.fullmatch("turn %s %s" % (number, number), row) and field and (numbers[0] % 2 or numbers[1] % 2):
            plan.append(dots[0])
        else:
            return ("bad", at)
    return ("sheet", (field, tuple(edges), tuple(plan))) if field else ("bad", 0)


def own_is_edge(dots):
    (ax, ay), (bx, by) = dots
    return (ax, ay) < (bx, by) and gcd(bx - ax, by - ay) == 1


def own_picture(field, edges):
    """The picture, each point asked for itself."""
    there = {middle(edge): arm(edge) for edge in list(edges) + sorted(own_rim(field))}
    xs, ys = [x for x, _ in field], [y for _, y in field]
    text = ""
    for y in range(2 * max(ys), 2 * min(ys) - 1, -1):
        line = ""
        for x in range(2 * min(xs), 2 * max(xs) + 1):
            if own_place(field, (Fraction(x, 2), Fraction(y, 2))) == "out":
                line += " "
            elif x % 2 == 0 and y % 2 == 0:
                line += "o"
            elif (x, y) in there:
                line += {(1, 0): "-", (0, 1): "|", (1, 1): "/", (1, -1): "x"}.get(there[x, y], "+")
            else:
                line += "."
        while line.endswith(" "):
            line = line[:-1]
        text += line + "\n"
    return text


def drawn_sheet(dice):
    """A SHEET: whatever FIELD, EDGES of none, PLAN of none to many MIDDLES, great and negative numbers in them."""
    size = dice.choice([3, 3, 40, 10 ** 6, 10 ** 11])
    edges = {random_edge(dice, size, dice.choice([2, size])) for _ in range(dice.choice([0, 1, 2, 7, 25]))}
    plan = []
    for _ in range(dice.choice([0, 1, 2, 9, 40])):
        x, y = dice.randint(-size, size), dice.randint(-size, size)
        plan.append((x, y) if (x % 2, y % 2) != (0, 0) else (x + dice.randint(0, 1), y - 1))
    return (dice.choice(FIELDS + [GREAT]), tuple(sorted(edges)), tuple(plan))


def loosened(dice, text):
    """text with more blanks, remarks and empty lines."""
    lines = []
    for line in text.split("\n"):
        while dice.random() < 0.2:
            lines.append(dice.choice(["", "   ", "# field 0", "  #", "#\t?"]))
        parts = line.split(" ")
        line = "".join(part + " " * dice.choice([1, 1, 2, 5]) for part in parts)
        lines.append(" " * dice.randint(0, 2) + line + dice.choice(["", "", "# and A.b # \\ more", "#"]))
    return "\n".join(lines)


def bent_text(dice, text):
    """text with a fault or two, maybe ones that do not matter."""
    lines = text.split("\n")
    for _ in range(dice.randint(1, 2)):
        at = dice.randrange(len(lines))
        words = lines[at].split(" ")
        spot = dice.randrange(len(words))
        lines[at] = dice.choice([
            lambda: " ".join(words[:spot] + words[spot + 1:]),
            lambda: " ".join(words[:spot] + [dice.choice(["0", "1", "-3", "07", "-0", "x", "edge", "1" * 12, "1" * 13, "-", "--1"])] + words[spot:]),
            lambda: " ".join(words[:spot] + [dice.choice(["0", "2", "-1", "00", "field", "turn", "edge", "5-"])] + words[spot + 1:]),
            lambda: lines[at] + dice.choice(["A", ".", "\t", " _", "\\", "# A", " 1", " 1 1", "#"]),
            lambda: "",
            lambda: dice.choice(lines),
            lambda: dice.choice(["turn 1 1", "edge 0 0 1 0", "turn 2 2", "edge 1 0 0 0", "edge 0 0 2 2", "field 0 0 1 0 0 1", "hold 1 1", "0"]),
        ])()
        if dice.random() < 0.2:
            other = dice.randrange(len(lines))
            lines[at], lines[other] = lines[other], lines[at]
    return "\n".join(lines)


def read_outcome(text):
    try:
        return ("sheet", texts.read_sheet(text))
    except BadText as error:
        return ("bad", error.line)


class Sheets(unittest.TestCase):
    def test_written_beside_an_own_writing(self):
        dice = random.Random(403)
        for _ in range(300):
            sheet = drawn_sheet(dice)
            self.assertEqual(told(texts.sheet_text(sheet)), told(own_text(sheet)))
            as_lists = [[list(dot) for dot in sheet[0]], [[list(dot) for dot in edge] for edge in sheet[1]], list(sheet[2])]
            self.assertEqual(texts.sheet_text(as_lists), own_text(sheet))

    def test_read_there_and_back(self):
        dice = random.Random(404)
        for _ in range(200):
            sheet = drawn_sheet(dice)
            text = texts.sheet_text(sheet)
            self.assertEqual(told(texts.read_sheet(text)), told(sheet))
            self.assertEqual(told(texts.read_sheet(text[:-1])), told(sheet))
            for _ in range(3):
                self.assertEqual(told(texts.read_sheet(loosened(dice, text))), told(sheet))

    def test_long_plans(self):
        sheet = (SQUARE, (), ((1, 1), (2, 1)) * 1000)
        self.assertEqual(texts.read_sheet(texts.sheet_text(sheet)), sheet)

    def test_faults_beside_an_own_reading(self):
        dice = random.Random(405)
        seen = {"sheet": 0, "bad": 0}
        for _ in range(4000):
            text = own_text((dice.choice(FIELDS[:8] + [ELL, SQUARE]),) + drawn_sheet(dice)[1:])
            if dice.random() < 0.3:
                text = loosened(dice, text)
            text = bent_text(dice, "\n".join(text.split("\n")[:dice.choice([2, 5, 99])]))
            wanted = own_read(text)
            seen[wanted[0]] += 1
            self.assertEqual(told(read_outcome(text)), told(wanted), text)
        self.assertGreater(min(seen.values()), 400)

    def check_line(self, text, line):
        with self.assertRaises(BadText) as caught:
            texts.read_sheet(text)
        self.assertEqual(told(caught.exception.line), told(line), text)

    def test_each_fault_by_its_line(self):
        head, edge, turn = "\nfield 0 0 1 0 0 1\n", "edge 0 0 1 1\n", "turn 1 2\n"
        for text, line in (("", 0), ("\n\n # x\n", 0), ("# field 0 0 1 0 0 1", 0), (" \n" + edge, 1), (turn, 0), ("field", 0),
                           ("field 0 0 1 0", 0), ("\nfield 0 0 1 0 0", 1), ("field 0 0 1 0 0 1 5", 0), ("field 0 0 0 1 1 0", 0),
                           ("field 0 0 1 0 2 0 0 1", 0), ("field 0 0 1 0 1 0 0 1", 0), ("field 0 0 1 0 00 1", 0),
                           ("field 0 0 1 0 0 1000000000000", 0), ("field 1 0 0 1 0 0", 0), ("field 0 0 2 2 2 0 0 2", 0),
                           ("fields 0 0 1 0 0 1", 0), ("field 0 0\n1 0 0 1", 0), ("0 0 1 0 0 1", 0), ("field edge 0 1 0 0 1", 0),
                           (head + "field 0 0 1 0 0 1", 2), (head + edge + turn + head, 5), (head + edge + edge, 3),
                           (head + "edge 0 0 1 1\nedge 0 0 0 1", 3), (head + turn + edge, 3), (head + edge + turn + "edge 5 5 5 6", 4),
                           (head + "edge 1 1 0 0", 2), (head + "edge 0 0 2 2", 2), (head + "edge 0 0 0 0", 2), (head + "edge 0 0 1", 2),
                           (head + "edge 0 0 1 1 2 1", 2), (head + "edge", 2), (head + "edge 0 0 1 1 0", 2), (head + "turn", 2),
                           (head + "turn 1", 2), (head + "turn 2 4", 2), (head + "turn 1 1 1", 2), (head + "turn 1 1 2 2", 2),
                           (head + "turn 01 1", 2), (head + "turn -0 1", 2), (head + "turn 1 1-", 2), (head + "\n\nhold 1 1", 4),
                           (head + "turn\n1 1", 2), (head + "edge 0 0 1 1 # \nedge -1 0 1 1", 3)):
            self.check_line(text, line)
        self.assertEqual(texts.read_sheet(head + edge + turn + turn), (((0, 0), (1, 0), (0, 1)), (((0, 0), (1, 1)),), ((1, 2), (1, 2))))

    def test_signs_ahead_of_every_other_fault(self):
        good = "field 0 0 1 0 0 1\nedge 0 0 1 1\n\nturn 1 2\nturn 3 3\n"
        for at in range(6):
            for sign in ("A", ".", "?", "\t", "_", "+", "\r"):
                for bad in ("", "field\n", "edge 1 1\n", "turn 2 2\n", "hold\n"):
                    lines = (bad + good).split("\n")
                    lines[at] += sign
                    self.check_line("\n".join(lines + ["B"]), at)
        self.assertEqual(texts.read_sheet(good + "# A.?"), texts.read_sheet(good))

    def test_what_is_a_sheet(self):
        dice = random.Random(406)
        for _ in range(60):
            sheet = field, edges, plan = drawn_sheet(dice)
            self.assertIs(texts.is_sheet(sheet), True)
            for thing in (list(sheet), sheet[:2], sheet + ((),), (list(field), edges, plan), (field, list(edges), plan), (field, edges, list(plan)),
                          (field, edges, plan + ((2, 4),)), (field, edges, plan + ((1, True),)), (field, edges, plan + ([1, 1],)),
                          (field[::-1], edges, plan), (field[1:] + field[:1], edges, plan), (None, edges, plan), (field, None, plan), (field, edges, None),
                          (field, edges + edges[-1:], plan) if edges else None, (field, edges[::-1], plan) if len(edges) > 1 else None,
                          (field, edges + (((10 ** 12, 0), (10 ** 12, 2)),), plan), (field, edges + (None,), plan), (edges, field, plan), None, 5, True,
                          "sheet", (), (field, edges, (plan,)), (field, (edges,), plan)):
                self.assertIs(texts.is_sheet(thing), False, thing)


class Pictures(unittest.TestCase):
    def test_beside_an_own_drawing(self):
        dice = random.Random(407)
        for field in SMALL + [field for field in FIELDS if len(own_picture(field, ())) < 3000][:30]:
            cut = own_completed(field)
            for edges in ((), cut, sorted(own_rim(field)), sorted(set(dice.sample(cut, len(cut) // 2)) | set(sorted(own_rim(field))[:2]))):
                self.assertEqual(told(texts.picture_text(field, tuple(edges))), told(own_picture(field, edges)))
                self.assertEqual(texts.picture_text(list(field), [list(edge) for edge in edges]), own_picture(field, edges))

    def test_slanted_ones(self):
        dice = random.Random(408)
        for field in SMALL[:15] + [ELL]:
            far = sheared_field(field, drawn_shear(dice))
            if len(own_picture(far, ())) < 3000:
                self.assertEqual(texts.picture_text(far, own_completed(far)), own_picture(far, own_completed(far)))

    def test_each_sign(self):
        self.assertEqual(texts.picture_text(SQUARE, ()), "o-o-o\n|...|\no.o.o\n|...|\no-o-o\n")
        self.assertEqual(texts.picture_text(SQUARE, (((0, 0), (1, 1)), ((0, 1), (1, 1)), ((0, 2), (1, 1)), ((1, 0), (1, 1)), ((1, 0), (2, 1)),
                                                     ((1, 1), (2, 2)))), "o-o-o\n|x./|\no-o.o\n|/|/|\no-o-o\n")
        self.assertEqual(texts.picture_text(ELL, ()), "o-o\n|.|\no.o-o\n|...|\no-o-o\n")
        self.assertEqual(texts.picture_text(((0, 0), (1, 2), (1, 3)), ()), "  o\n  |\n  o\n +\n +\n\no\n")

    def test_in_that_of_a_cut_no_place_is_left(self):
        dice = random.Random(409)
        for field in SMALL:
            _, along = drawn_plan(dice, field, own_completed(field), 6)
            pictures = [texts.picture_text(field, cut) for cut in along]
            self.assertFalse(any("." in picture for picture in pictures))
            for one, two in zip(pictures, pictures[1:]):
                self.assertEqual(len(one), len(two))
                self.assertLessEqual(sum(a != b for a, b in zip(one, two)), 1)

    def test_too_many(self):
        # Oddly many lines of oddly many signs: 101 times 99 are 9,999, 137 times 73 are 10,001.
        for dots, many in ((((0, 0), (49, 50), (1, 2)), 9999), (((-9, 7), (-8, 8), (41, 56)), 9999), (((0, 0), (832, 1), (833, 1)), 5001),
                           (((0, 0), (1666, 1), (1665, 1)), 9999), (((5, 0), (6, 1665), (6, 1666)), 9999)):
            field = own_field(dots)
            text = texts.picture_text(field, ())
            self.assertEqual(told(text), told(own_picture(field, ())))
            xs, ys = [x for x, _ in field], [y for _, y in field]
            self.assertEqual((2 * (max(xs) - min(xs)) + 1) * (2 * (max(ys) - min(ys)) + 1), many)
        for dots in (((0, 0), (36, 68), (1, 2)), ((0, 0), (68, 36), (2, 1)), ((0, 0), (1667, 1), (1666, 1)),
                     ((0, 0), (10 ** 6, 1), (10 ** 6 - 1, 1)), ((0, 0), (0, -5000), (1, -5000))):
            field = own_field(dots)
            with self.assertRaises(TooMany):
                texts.picture_text(field, ())
            for edges in ((((0, 0), (9, 9)),), None, (((10 ** 7, 0), (10 ** 7, 1)),)):
                with self.assertRaises(Unfit):
                    texts.picture_text(field, edges)

    def test_edges_that_do_not_stand_together(self):
        dice = random.Random(410)
        seen = [0, 0, 0]
        for field in SMALL:
            lots = own_lots(field)
            edges = sorted({dice.choice(lot) for lot in lots.values() if dice.random() < 0.6} | {random_edge(dice, 3, 2)})
            stands = all(own_lies_in(field, edge) for edge in edges), not any(own_cross(one, two) for one in edges for two in edges)
            seen[sum(stands)] += 1
            if all(stands):
                self.assertEqual(texts.picture_text(field, tuple(edges)), own_picture(field, edges))
            else:
                with self.assertRaises(Unfit):
                    texts.picture_text(field, tuple(edges))
        self.assertGreater(sum(seen[:2]), 5)
        up, wall = ((0, 0), (1, 1)), ((1, 1), (2, 1))
        for edges in ((wall, up), (up, up), (up, ((0, 1), (1, 0))), (((0, 0), (2, 2)),), (up[::-1],), (((1, 1), (3, 2)),), None, 5, (up, None), up):
            with self.assertRaises(Unfit):
                texts.picture_text(SQUARE, edges)
        for field in (None, SQUARE[::-1], SQUARE[1:] + SQUARE[:1], ((0, 0), (36, 68)), ((0, 0), (5000, 0), (9000, 0))):
            with self.assertRaises(Unfit):
                texts.picture_text(field, ())


class Errors(unittest.TestCase):
    def test_no_sheet(self):
        edge, other = ((0, 0), (1, 0)), ((0, 0), (1, 1))
        for sheet in (None, 5, "field 0 0 1 0 0 1", (), (SQUARE,), (SQUARE, ()), (SQUARE, (), (), ()), (SQUARE[::-1], (), ()), (SQUARE, (other, edge), ()),
                      (SQUARE, (edge, edge), ()), (SQUARE, (edge[::-1],), ()), (SQUARE, (), ((2, 2),)), (SQUARE, (), ((1, 1, 1),)), (SQUARE, (), (1, 1)),
                      (SQUARE, edge, ()), (SQUARE, (), None), (SQUARE, None, ()), ((), (), ()), (SQUARE, (), ((True, 1),)), (SQUARE, (), ("ab",))):
            with self.assertRaises(Unfit):
                texts.sheet_text(sheet)


if __name__ == "__main__":
    unittest.main()
