"""Pieces of a text, and the numbers that pieces tell."""

from middledots.errors import BadText

FIGURES = "0123456789"
PIECE_SIGNS = "abcdefghijklmnopqrstuvwxyz0123456789-"
MOST_FIGURES = 12


def pieces(text):
    """The PIECES of text: pairs (piece, line)."""
    found = []
    for line, row in enumerate(text.split("\n")):
        told = row.partition("#")[0]
        if not all([sign == " " or sign in PIECE_SIGNS for sign in told]):
            raise BadText(line)
        found.extend([(piece, line) for piece in told.split()])
    return found


def text_of(pieces):
    """The text with each of these pieces in its line."""
    rows = []
    for piece, line in pieces:
        while len(rows) <= line:
            rows.append([])
        rows[line].append(piece)
    return "".join([" ".join(row) + "\n" for row in rows])


def number_told(word, most):
    """The number that word tells by at most so many figures, without a needless 0 ahead; None if it tells none."""
    figures = word.removeprefix("-")
    if not 1 <= len(figures) <= most or not all([sign in FIGURES for sign in figures]):
        return None
    if figures[0] == "0" and word != "0":
        return None
    return int(word)


def number_of(piece):
    """The number that piece tells as a number piece; None if it is none."""
    return number_told(piece, MOST_FIGURES)


def piece_of(number):
    """The number piece of number."""
    return str(number)
