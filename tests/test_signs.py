"""[4]: pieces of a text, and number pieces."""

import random
import unittest

from middledots.errors import BadText
from middledots.signs import number_of, piece_of, pieces, text_of
from tests.helpers import told

SIGNS = "abcdefghijklmnopqrstuvwxyz0123456789-"
OTHERS = "".join(chr(code) for code in range(33, 127) if chr(code) not in SIGNS + "#")


def random_piece(dice):
    return "".join(dice.choice(SIGNS) for _ in range(dice.choice((1, 1, 2, 3, 8, 40))))


def random_pieces(dice):
    """PIECES: some lines with none, some with many."""
    found = []
    line = 0
    for _ in range(dice.randint(0, 12)):
        line += dice.choice((0, 0, 0, 1, 1, 2, 7))
        found.append((random_piece(dice), line))
    return found


def random_text(dice, own):
    """A text with these pieces, more blanks between them, remarks, and empty lines behind."""
    rows = [[] for _ in range(max([line for _, line in own], default=0) + 1 + dice.randint(0, 2))]
    for piece, line in own:
        rows[line].append(piece)
    lines = []
    for row in rows:
        told_row = " " * dice.randint(0, 2) + "".join(piece + " " * dice.randint(1, 3) for piece in row)
        told_row = told_row if dice.random() < 0.5 else told_row.rstrip(" ")
        lines.append(told_row + dice.choice(("", "", "#", "# A remark!", "#x#y ~", " # 7 - B")))
    return "\n".join(lines)


class Pieces(unittest.TestCase):
    def test_pieces_of_texts_made_of_them(self):
        dice = random.Random(31)
        for _ in range(400):
            own = random_pieces(dice)
            self.assertEqual(told(pieces(random_text(dice, own))), told(own))

    def test_there_and_back(self):
        dice = random.Random(32)
        for _ in range(400):
            own = random_pieces(dice)
            self.assertEqual(told(pieces(text_of(own))), told(own))

    def test_the_text_told_is_as_stated(self):
        dice = random.Random(33)
        for _ in range(300):
            own = random_pieces(dice)
            last = own[-1][1] if own else -1
            rows = [" ".join(piece for piece, at in own if at == line) + "\n" for line in range(last + 1)]
            self.assertEqual(text_of(own), "".join(rows))
        self.assertEqual(text_of(()), "")

    def test_nothing_but_what_parts(self):
        for text in ("", " ", "\n", "\n\n", "   \n ", "#", "# all", "#a\n#b", " # x # y\n  # z"):
            with self.subTest(text=text):
                self.assertEqual(pieces(text), [])

    def test_a_remark_parts_a_piece_from_nothing(self):
        self.assertEqual(pieces("ab#cd\nef"), [("ab", 0), ("ef", 1)])
        self.assertEqual(pieces("a-1#\n#\n--"), [("a-1", 0), ("--", 2)])

    def test_a_line_break_puts_later_pieces_one_line_on(self):
        dice = random.Random(34)
        for _ in range(200):
            own = random_pieces(dice)
            for at in range(1, len(own)):
                text = "".join(piece + ("\n" if k + 1 == at else " ") for k, (piece, _) in enumerate(own))
                wanted = [(piece, int(k >= at)) for k, (piece, _) in enumerate(own)]
                self.assertEqual(pieces(text), wanted)

    def test_bad_text_tells_the_first_wrong_line(self):
        dice = random.Random(35)
        for _ in range(400):
            lines = random_text(dice, random_pieces(dice)).split("\n")
            wrong = sorted(dice.sample(range(len(lines)), dice.randint(1, len(lines))))
            for at in wrong:
                body, mark, remark = lines[at].partition("#")
                place = dice.randint(0, len(body))
                lines[at] = body[:place] + dice.choice(OTHERS) + body[place:] + mark + remark
            with self.assertRaises(BadText) as caught:
                pieces("\n".join(lines))
            self.assertEqual(vars(caught.exception), {"line": wrong[0]})

    def test_each_other_sign_is_bad_outside_of_remarks_alone(self):
        for sign in OTHERS:
            with self.subTest(sign=sign):
                self.assertEqual(pieces("a # " + sign), [("a", 0)])
                for text in (sign, "a" + sign + "b", " " + sign + "# x", "7" + sign):
                    with self.assertRaises(BadText):
                        pieces(text)

    def test_pieces_of_whatever_length(self):
        long = "a1-" * 30000
        self.assertEqual(pieces("\n" + long + " b"), [(long, 1), ("b", 1)])

    def test_lists_for_tuples(self):
        self.assertEqual(text_of((["cut", 0], ["0", 0], ["plan", 2])), "cut 0\n\nplan\n")


class NumberPieces(unittest.TestCase):
    def test_there_and_back(self):
        dice = random.Random(36)
        most = 10 ** 12 - 1
        own = [0, 1, -1, 9, 10, -10, most, -most] + [dice.randint(-10 ** dice.randint(1, 12) + 1, 10 ** dice.randint(1, 12) - 1)
                                                     for _ in range(500)]
        for number in own:
            piece = piece_of(number)
            self.assertEqual((told(number_of(piece)), type(piece)), (told(number), str))
            self.assertEqual(pieces(piece), [(piece, 0)])

    def test_what_is_none(self):
        none = ["", "-", "--1", "-0", "00", "07", "-07", "01", "1-", "1-2", "a", "1a", "a1", "+1", " 1", "1 ", "1 2", "1_0", "0x1",
                "1.0", "1e3", "-a", "1\n", "\n1", "\u00b2", "\u0663", "1\u0663", "-\u0663", "\uff11", "1000000000000",
                "-1000000000000", "9" * 13, "-" + "9" * 13, "0" * 12, "9" * 9999, "-" * 9, "None", "\t1"]
        for piece in none:
            with self.subTest(piece=piece[:20]):
                self.assertIsNone(number_of(piece))

    def test_what_is_one(self):
        for piece, number in (("0", 0), ("5", 5), ("-5", -5), ("10", 10), ("999999999999", 999999999999),
                              ("-999999999999", -999999999999), ("100000000000", 10 ** 11)):
            self.assertEqual(told(number_of(piece)), told(number))


if __name__ == "__main__":
    unittest.main()
