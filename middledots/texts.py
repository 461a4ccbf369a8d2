"""Texts that tell a field, edges and a plan, and pictures of fields."""

from middledots.dots import added, arm_from, times
from middledots.edges import given_held
from middledots.errors import BadText, TooMany
from middledots.fields import dots_of, given_field, is_field, middles_within, rim_round
from middledots.given import fits_edge, fits_edges, fits_middle, given
from middledots.signs import number_of, piece_of, pieces, text_of

# The first pieces of rows, in the order in which the rows stand.
WORDS = ("field", "edge", "turn")
ARM_SIGNS = {(1, 0): "-", (0, 1): "|", (1, 1): "/", (1, -1): "x"}
MOST_SIGNS = 10000


def fits_sheet(thing):
    """Whether thing is a SHEET."""
    if not isinstance(thing, tuple) or len(thing) != 3:
        return False
    field, edges, plan = thing
    return is_field(field) and fits_edges(edges) and isinstance(plan, tuple) and all([fits_middle(own) for own in plan])


def row_told(word, pairs):
    """The pieces of a row: word, then both numbers of each of the pairs."""
    return [word] + [piece_of(number) for pair in pairs for number in pair]


def line_rows(text):
    """The pairs (line, the pieces in it), for each line with pieces."""
    rows = {}
    for piece, line in pieces(text):
        rows.setdefault(line, []).append(piece)
    return list(rows.items())


def read_row(row):
    """What these pieces tell: the pair (word, value); None if they are no row as told."""
    numbers = [number_of(piece) for piece in row[1:]]
    if None in numbers or len(numbers) % 2 == 1:
        return None
    pairs = tuple([(numbers[at], numbers[at + 1]) for at in range(0, len(numbers), 2)])
    if row[0] == "field" and is_field(pairs) or row[0] == "edge" and fits_edge(pairs):
        return (row[0], pairs)
    if row[0] == "turn" and len(pairs) == 1 and fits_middle(pairs[0]):
        return (row[0], pairs[0])
    return None


def can_follow(rows, word, value):
    """Whether a row that tells this can stand behind those that tell rows."""
    if rows == [] or word == "field":
        return rows == [] and word == "field"
    last, ahead = rows[-1]
    if last == "edge" and word == "edge":
        return ahead < value
    return WORDS.index(last) <= WORDS.index(word)


def signs_on(field, edges):
    """The sign of the picture at each dot and each half point of field, told by twice its numbers."""
    signs = {middle: "." for middle in middles_within(field)}
    for low, high in list(edges) + rim_round(field):
        signs[added(low, high)] = ARM_SIGNS.get(arm_from((low, high)), "+")
    for dot in dots_of(field):
        signs[times(2, dot)] = "o"
    return signs


def is_sheet(thing):
    """Whether thing is a SHEET."""
    return fits_sheet(thing)


def sheet_text(sheet):
    """The text of sheet."""
    field, edges, plan = given(sheet, 4, fits_sheet)
    rows = [row_told("field", field)]
    rows.extend([row_told("edge", edge) for edge in edges])
    rows.extend([row_told("turn", (middle,)) for middle in plan])
    return text_of([(piece, line) for line, row in enumerate(rows) for piece in row])


def read_sheet(text):
    """The SHEET that text tells."""
    rows = []
    for line, row in line_rows(text):
        own = read_row(row)
        if own is None or not can_follow(rows, own[0], own[1]):
            raise BadText(line)
        rows.append(own)
    if rows == []:
        raise BadText(0)
    edges, plan = [[value for word, value in rows if word == wanted] for wanted in ("edge", "turn")]
    return (rows[0][1], tuple(edges), tuple(plan))


def picture_text(field, edges):
    """The picture of field and of edges that stand together in it."""
    field = given_field(field)
    edges = given_held(field, edges)
    xs, ys = [2 * x for x, _ in field], [2 * y for _, y in field]
    if (max(xs) - min(xs) + 1) * (max(ys) - min(ys) + 1) > MOST_SIGNS:
        raise TooMany()
    signs = signs_on(field, edges)
    lines = []
    for y in range(max(ys), min(ys) - 1, -1):
        line = "".join([signs.get((x, y), " ") for x in range(min(xs), max(xs) + 1)])
        lines.append(line.rstrip() + "\n")
    return "".join(lines)
