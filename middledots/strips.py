"""Strips: fields one high, whose cuts are rows of words."""

from math import comb

from middledots.dots import added, told_edge
from middledots.errors import Broken, Unfit
from middledots.given import fits_middle, fits_pair, given, given_all, given_count
from middledots.nets import given_cut

WORDS = ("below", "above")


def fits_strip(thing):
    """Whether thing is a STRIP."""
    return fits_pair(thing) and min(thing) >= 1


def fits_row(thing):
    """Whether thing is a ROW of some STRIP."""
    if not isinstance(thing, tuple) or not all([isinstance(word, str) and word in WORDS for word in thing]):
        return False
    return all([word in thing for word in WORDS])


def given_strip(value):
    """A STRIP."""
    return given(value, 1, fits_strip)


def given_row(value):
    """A ROW."""
    return given(value, 1, fits_row)


def given_rows(value):
    """A tuple of an odd number of ROWS of one STRIP."""
    rows = given_all(value, 1, fits_row)
    if len(rows) % 2 == 0 or len(set([strip_told(row) for row in rows])) > 1:
        raise Unfit()
    return rows


def given_two(row, other):
    """Two ROWS of one STRIP."""
    row, other = given_row(row), given_row(other)
    if strip_told(row) != strip_told(other):
        raise Unfit()
    return (row, other)


def strip_told(row):
    """How many words of row are "below" and how many "above"."""
    return (row.count("below"), row.count("above"))


def corners_of(strip):
    """The FIELD of strip."""
    below, above = strip
    return ((0, 0), (below, 0), (above, 1), (0, 1))


def counts_of(row):
    """For each word how many up to it are "below"."""
    counts = []
    for word in row:
        counts.append((counts[-1] if counts else 0) + (word == "below"))
    return counts


def row_with(counts):
    """The ROW with these counts, those of all of its words."""
    ahead = [0] + counts[:-1]
    return tuple(["below" if count > before else "above" for count, before in zip(counts, ahead)])


def edges_with(counts):
    """The CUT of the ROW with these counts."""
    lower = [(count, 0) for count in counts[:-1]]
    upper = [(at + 1 - count, 1) for at, count in enumerate(counts[:-1])]
    return tuple(sorted([told_edge(low, high) for low, high in zip(lower, upper)]))


def turned_at(row, middle):
    """The ROW behind this TURN of row; None if it is none."""
    place, height = middle
    if height != 1 or not 0 < place < len(row) or row[place - 1] == row[place]:
        return None
    return row[:place - 1] + (row[place], row[place - 1]) + row[place + 1:]


def least_nearer(row, goal):
    """The least MIDDLE at which row can come nearer to the ROW with the counts goal; None if there is none."""
    for at, count in enumerate(counts_of(row)[:-1]):
        # An exchange makes the count less by one if "below" is ahead, more by one if "above" is.
        if row[at] != row[at + 1] and (count > goal[at] if row[at] == "below" else count < goal[at]):
            return (at + 1, 1)
    return None


def strip_field(strip):
    """The FIELD of strip."""
    return corners_of(given_strip(strip))


def is_strip(thing):
    """Whether thing is a STRIP."""
    return fits_strip(thing)


def is_strip_row(thing):
    """Whether thing is a ROW of some STRIP."""
    return fits_row(thing)


def strip_of(row):
    """The STRIP of which row is a ROW."""
    return strip_told(given_row(row))


def row_of(strip, cut):
    """The ROW of which cut is the CUT."""
    strip = given_strip(strip)
    cut = given_cut(corners_of(strip), cut)
    below, above = strip
    counts = {below + above: below}
    for low, high in cut:
        place, _ = added(low, high)
        counts[place] = low[0] if low[1] == 0 else high[0]
    return row_with([counts[place] for place in sorted(counts)])


def cut_of_row(row):
    """The CUT of row."""
    return edges_with(counts_of(given_row(row)))


def many_rows(strip):
    """How many ROWS strip has."""
    below, above = given_strip(strip)
    return comb(below + above, below)


def rows_off(strip, turns):
    """How many ROWS of strip lie just so many TURNS from that with all "below" ahead."""
    (below, above), turns = given_strip(strip), given_count(turns)
    if turns > below * above:
        return 0
    # As many as there are ways to make turns of above numbers from 0 to below, in whatever order: the product of
    # (1 - q ** (below + n)) / (1 - q ** n) over n from 1 to above tells them by the powers of q.
    ways = [1] + [0] * turns
    for number in range(1, above + 1):
        for at in range(turns, below + number - 1, -1):
            ways[at] -= ways[at - below - number]
        for at in range(number, turns + 1):
            ways[at] += ways[at - number]
    return ways[turns]


def row_number(row):
    """How many ROWS of its STRIP are below row by comparison."""
    row = given_row(row)
    below, above = strip_told(row)
    number = 0
    for word in row:
        if word == "above":
            above -= 1
        else:
            # Those that have "above" here, if one is left, are below row.
            number += comb(below + above - 1, below)
            below -= 1
    return number


def row_by_number(strip, number):
    """The ROW of strip with this number."""
    below, above = given_strip(strip)
    number = given_count(number)
    if number >= comb(below + above, below):
        raise Unfit()
    row = []
    while below + above > 0:
        # So many have "above" here: none if no more "above" is left.
        many = comb(below + above - 1, below)
        if number < many:
            row.append("above")
            above -= 1
        else:
            row.append("below")
            number = number - many
            below -= 1
    return tuple(row)


def row_steps(row, other):
    """The fewest TURNS between the CUTS of both ROWS."""
    row, other = given_two(row, other)
    return sum([abs(count - goal) for count, goal in zip(counts_of(row), counts_of(other))])


def row_plan(row, other):
    """The PLAN with so many, in which each TURN is at the least MIDDLE at which one comes nearer."""
    row, other = given_two(row, other)
    goal = counts_of(other)
    plan = []
    while row != other:
        plan.append(least_nearer(row, goal))
        row = turned_at(row, plan[-1])
    return tuple(plan)


def row_behind(row, plan):
    """The ROW behind plan."""
    row, plan = given_row(row), given_all(plan, 1, fits_middle)
    for place, middle in enumerate(plan):
        row = turned_at(row, middle)
        if row is None:
            raise Broken(place)
    return row


def middle_row(rows):
    """The ROW of the CUT in the middle of those of rows."""
    counts = [counts_of(row) for row in given_rows(rows)]
    return row_with([sorted(column)[len(counts) // 2] for column in zip(*counts)])
