"""Calls of every function, and wrong values for each kind of argument."""

import importlib

from tests.cutting import own_completed
from tests.helpers import (ELL, WRONG, WRONG_ARMS, WRONG_COUNTS, WRONG_EDGES, WRONG_FIELDS, WRONG_MIDDLES, WRONG_PAIRS, in_tuples,
                           own_field)

FLAT, STEEP, AFAR = ((0, 0), (2, 1)), ((1, 0), (1, 1)), ((7, 7), (8, 9))
# CUTS of ELL, the triangles of the first one, the REST of it; a FIELD with too many CUTS and RESTS.
CUT = (((0, 0), (1, 1)), ((0, 0), (1, 2)), ((0, 0), (2, 1)), ((0, 1), (1, 2)), ((1, 0), (2, 1)))
MILD = (((0, 0), (1, 1)), ((0, 1), (1, 1)), ((0, 1), (1, 2)), ((1, 0), (1, 1)), ((1, 0), (2, 1)))
LAST = (((0, 1), (1, 0)), ((0, 1), (1, 1)), ((0, 2), (1, 1)), ((1, 0), (1, 1)), ((1, 1), (2, 0)))
PARTS = (((0, 0), (0, 1), (1, 2)), ((0, 0), (1, 0), (2, 1)), ((0, 0), (1, 1), (1, 2)), ((0, 0), (1, 1), (2, 1)),
         ((0, 1), (0, 2), (1, 2)), ((1, 0), (2, 0), (2, 1)))
REST = ((0, 0), (1, 0), (2, 0), (2, 1), (1, 1), (1, 2), (0, 2), (0, 1))
GREAT = ((0, 0), (6, 0), (6, 5), (0, 5))
LARGE = ((0, 0), (36, 68), (1, 2))
ROW, ROW_BACK = ("below", "below", "above"), ("above", "below", "below")
SHEET = (ELL, (((-5, 3), (4, -4)), FLAT, STEEP), ((2, 1), (-7, 4), (2, 1)))
SHEAR, SWAP = ((1, 0), (2, 1), (0, 3)), ((0, 1), (1, 0), (0, 0))
RIM = ((0, 0), (0, 1))
# One DEMAND of each word that stands, and one that does not; one with too many CUTS.
DEMANDS = [("stand", ELL, (STEEP,)), ("stand", ELL, (FLAT, STEEP)), ("fewest", ELL, CUT, MILD, 2), ("fewest", ELL, CUT, MILD, 1),
           ("nearest", ELL, CUT, (STEEP,), CUT[:2] + (CUT[3], STEEP, CUT[4])), ("nearest", ELL, CUT, (), MILD),
           ("sure", ((0, 0), (3, 0), (1, 2)), ((0, 0), (1, 1))), ("sure", ELL, FLAT), ("many", ELL, (FLAT,), 5), ("many", ELL, (), 0)]
TOO_MANY = ("many", GREAT, (), 10 ** 9)

OUTSIDE = [AFAR, ((-1, 0), (0, 0)), ((0, -1), (1, 0)), ((6, 5), (7, 6))]
WRONG_CUTS = in_tuples(WRONG_EDGES + OUTSIDE, CUT[0]) + [CUT[:-1] + (part,) for part in WRONG_EDGES + OUTSIDE + [CUT[0], FLAT]] + [
    CUT[1:], CUT[::-1], CUT + CUT, (), (CUT,), CUT[:-1], LAST[:3] + CUT[3:], CUT + (((0, 0), (0, 1)),), ELL, PARTS]
WRONG_TRIANGLES = WRONG_PAIRS + [part[::-1] for part in PARTS] + [PARTS[0][:2], PARTS[0] + ((9, 9),), ((0, 0), (1, 0), (2, 0)), PARTS,
                                 ((0, 0), (1, 0), (2, 2)), ((0, 0), (0, 0), (1, 1)), ((0, 0), (1, 0), (True, 1)), (1, 2, 3), "abc"]
WRONG_RESTS = [own for own in WRONG_FIELDS if own != ((0, 0), (1, 0), (2, 0), (0, 1))] + [ELL, REST[::-1], REST[1:] + REST[:1]]
WRONG_STRIPS = WRONG_PAIRS + [(0, 1), (1, 0), (-1, 2), (2, -5)]
WRONG_SHEETS = WRONG_PAIRS + [SHEET[:2], SHEET + ((),), SHEET[::-1]] + [(own,) + SHEET[1:] for own in WRONG_FIELDS] + [
    (ELL, own, ()) for own in in_tuples(WRONG_EDGES, FLAT) + [SHEET[1][::-1], SHEET[1] + SHEET[1][-1:]]] + [
    (ELL, (), own) for own in in_tuples(WRONG_MIDDLES, (2, 1))]
WRONG_HELD = in_tuples(WRONG_EDGES + OUTSIDE, CUT[0]) + [(FLAT, STEEP), (STEEP, RIM), (CUT[0], CUT[0]), CUT[::-1], CUT + CUT, [FLAT, CUT[0]]]
WRONG_SHEARS = WRONG_PAIRS + [SHEAR[:2], SHEAR + ((0, 0),), ((1, 0), (1, 0), (0, 0)), ((2, 0), (0, 1), (0, 0)), ((0, 0), (0, 0), (0, 0)),
                              ((1, 0), (0, -3), (1, 1)), ((1, 0), (0, 1), None), ((1, 0), (0, 1), (True, 0)), ((1, 0), (0, 1), 0),
                              ((True, 0), (0, 1), (0, 0)), ((1, 0, 0), (0, 1, 0), (0, 0, 1)), ((1, 0), "ab", (0, 0)), ELL[:3]]
WRONG_PATHS = in_tuples(WRONG_PAIRS, (0, 1)) + [(), ((0, 1),), ((0, 1), (0, 1)), RIM, ((0, 1), (1, 1), (1, 0)), ((1, 2), (2, 1)),
                                                ((0, 0), (2, 2)), ((0, 2), (2, 0)), ((0, 1), (1, 0), (0, 1)), ((7, 7), (8, 9)), ELL,
                                                ((0, 1), (1, 0), (2, 1))]
WRONG_DEMANDS = WRONG_PAIRS + [own[:1] for own in DEMANDS] + [([own[0]],) + own[1:] for own in DEMANDS] + [
    ({own[0]: 1},) + own[1:] for own in DEMANDS[::2]] + [own[1:] for own in DEMANDS] + [own + (0,) for own in DEMANDS] + [own[:-1] for own in DEMANDS] + [
    ("",) + own[1:] for own in DEMANDS[::2]] + [(None,) + own[1:] for own in DEMANDS[::2]] + [
    ((own[0],),) + own[1:] for own in DEMANDS[::2]] + [(own[0] + " ",) + own[1:] for own in DEMANDS[::2]] + [
    (own[0], wrong) + own[2:] for own in DEMANDS[::2] for wrong in WRONG_FIELDS] + [
    ("stand", ELL, wrong) for wrong in in_tuples(WRONG_EDGES, FLAT) + [(STEEP, FLAT), (FLAT, FLAT)]] + [
    ("fewest", ELL, wrong, MILD, 9) for wrong in WRONG_CUTS] + [("fewest", ELL, CUT, wrong, 9) for wrong in WRONG_CUTS] + [
    ("fewest", ELL, CUT, MILD, wrong) for wrong in WRONG_COUNTS] + [("nearest", ELL, wrong, (), MILD) for wrong in WRONG_CUTS] + [
    ("nearest", ELL, CUT, wrong, CUT) for wrong in WRONG_HELD + [(STEEP,)]] + [("nearest", ELL, CUT, (), wrong) for wrong in WRONG_CUTS] + [
    ("sure", ELL, wrong) for wrong in WRONG_EDGES + OUTSIDE + [RIM, (FLAT,)]] + [("many", ELL, wrong, 3) for wrong in WRONG_HELD] + [
    ("many", ELL, (), wrong) for wrong in WRONG_COUNTS]
WRONG_ROWS = WRONG + [7, (), [], ("below",), ("above", "above"), ROW + ("",), ROW + (None,), ROW + (True,), (ROW,), "below above"]


WRONG_OF = {
    "dot": WRONG_PAIRS,
    "pair": WRONG_PAIRS,
    "arm": WRONG_ARMS,
    "middle": WRONG_MIDDLES,
    "edge": WRONG_EDGES,
    "count": WRONG_COUNTS,
    "field": WRONG_FIELDS,
    "dots": in_tuples(WRONG_PAIRS, (0, 1)),
    "edges": in_tuples(WRONG_EDGES, ((0, 0), (1, 0))),
    "arms": in_tuples(WRONG_ARMS, (1, 0)) + [(), []],
    "inside": in_tuples(WRONG_EDGES + OUTSIDE, CUT[0]),
    "cut": WRONG_CUTS,
    "far cut": [own for own in WRONG_CUTS if own != ()] + [CUT],
    "cuts": in_tuples(WRONG_CUTS, CUT) + [(CUT, MILD, part) for part in WRONG_CUTS] + [(), (CUT, MILD), [CUT] * 4],
    "plan": in_tuples(WRONG_PAIRS, (1, 1)),
    "row plan": in_tuples(WRONG_MIDDLES, (1, 1)),
    "triangle": WRONG_TRIANGLES,
    "triangles": in_tuples(WRONG_TRIANGLES, PARTS[1]) + [PARTS[::-1], PARTS + PARTS[-1:], PARTS[:1] + PARTS],
    "rest": WRONG_RESTS,
    "sheet": WRONG_SHEETS,
    "held": WRONG_HELD,
    "shear": WRONG_SHEARS,
    "path": WRONG_PATHS,
    "demand": WRONG_DEMANDS,
    "demands": in_tuples(WRONG_DEMANDS[::7] + [None, (), 5], DEMANDS[0]),
    "strip": WRONG_STRIPS,
    "row": WRONG_ROWS,
    "rows": in_tuples(WRONG_ROWS, ROW) + [(ROW, ROW, part) for part in WRONG_ROWS] + [(), (ROW, ROW_BACK), (ROW, ROW, ROW + ROW)],
}


# Calls of every function: its module, its name, its arguments with their kinds, and values for them. Some of the
# values bring the later errors, so that a wrong argument beside them shows which error is first.

CALLS = [
    ("signs", "pieces", [("text", "text")], [("cut 0\n\nplan # x",), ("A",), ("",)]),
    ("signs", "text_of", [("pieces", "pieces")], [([("cut", 0), ("0", 0), ("plan", 2)],), ([],)]),
    ("signs", "number_of", [("piece", "piece")], [("07",), ("-12",)]),
    ("signs", "piece_of", [("number", "number")], [(-7,), (0,)]),
    ("dots", "is_dot", [("thing", "thing")], [((1, 2),), (5,)]),
    ("dots", "is_arm", [("thing", "thing")], [((1, 2),), ((2, 2),)]),
    ("dots", "is_edge", [("thing", "thing")], [(FLAT,), (5,)]),
    ("dots", "can_be_middle", [("thing", "thing")], [((1, 2),), ((2, 2),)]),
    ("dots", "edge", [("dot", "dot"), ("other", "dot")], [((2, 1), (0, 0)), ((0, 0), (2, 2)), ((0, 0), (0, 0))]),
    ("dots", "middle_of", [("edge", "edge")], [(FLAT,)]),
    ("dots", "arm_of", [("edge", "edge")], [(FLAT,)]),
    ("dots", "kind_of", [("middle", "middle")], [((3, 4),)]),
    ("dots", "square_of", [("arm", "arm")], [((2, -1),)]),
    ("dots", "edge_at", [("middle", "middle"), ("arm", "arm")], [((3, 2), (1, -2)), ((3, 2), (0, 1))]),
    ("dots", "cross", [("edge", "edge"), ("other", "edge")], [(FLAT, STEEP), (FLAT, AFAR)]),
    ("dots", "side_of", [("edge", "edge"), ("dot", "dot")], [(FLAT, (1, 1))]),
    ("dots", "area_of", [("dots", "dots")], [(((0, 0), (2, 0), (2, 1)),), ((),)]),
    ("dots", "edges_between", [("dot", "dot"), ("other", "dot")], [((3, 3), (0, 0)), ((0, 0), (9000, 0))]),
    ("fields", "is_field", [("thing", "thing")], [(ELL,), (5,)]),
    ("fields", "field_of", [("dots", "dots")], [(ELL[::-1],), ((),), (((0, 0), (1, 0)),)]),
    ("fields", "place_of", [("field", "field"), ("dot", "dot")], [(ELL, (1, 1)), (ELL, (9, 9))]),
    ("fields", "half_place_of", [("field", "field"), ("middle", "middle")], [(ELL, (1, 1)), (ELL, (9, 9))]),
    ("fields", "inner_dots", [("field", "field")], [(((0, 0), (9, 0), (0, 9)),)]),
    ("fields", "rim_dots", [("field", "field")], [(ELL,)]),
    ("fields", "all_dots", [("field", "field")], [(ELL,)]),
    ("fields", "rim_edges", [("field", "field")], [(ELL,)]),
    ("fields", "middles", [("field", "field")], [(ELL,)]),
    ("fields", "numbers", [("field", "field")], [(ELL,)]),
    ("arms", "are_neighbours", [("arm", "arm"), ("other", "arm")], [((1, 0), (5, 2)), ((1, 0), (0, 1))]),
    ("arms", "neighbours", [("arm", "arm"), ("most", "count")], [((2, 1), 4), ((1, 0), 10 ** 6), ((2, 1), 0)]),
    ("arms", "elder", [("arm", "arm")], [((5, 4),), ((1, 0),)]),
    ("arms", "root_of", [("arm", "arm")], [((5, 4),)]),
    ("arms", "depth", [("arm", "arm")], [((5, 4),)]),
    ("arms", "way", [("arm", "arm"), ("other", "arm")], [((5, 4), (3, -2)), ((5, 4), (1, 1)), ((1, 0), (9999, 9998))]),
    ("arms", "length", [("arm", "arm"), ("other", "arm")], [((5, 4), (3, -2)), ((5, 4), (1, 1))]),
    ("arms", "at_step", [("arm", "arm"), ("other", "arm"), ("number", "count")],
     [((5, 4), (3, -2), 1), ((5, 4), (3, -2), 4), ((5, 4), (1, 1), 0)]),
    ("halves", "base_of", [("arm", "arm"), ("other", "arm")], [((5, 4), (3, 2)), ((5, 4), (1, 0))]),
    ("halves", "is_in_half", [("arm", "arm"), ("other", "arm"), ("third", "arm")],
     [((5, 4), (3, 2), (7, 4)), ((5, 4), (1, 0), (1, 0)), ((5, 4), (3, 2), (1, 1))]),
    ("halves", "many_in_half", [("arm", "arm"), ("other", "arm"), ("arms", "arms")],
     [((1, 0), (3, 2), ((5, 4), (1, 0), (1, 0))), ((5, 4), (1, 0), ((1, 0),)), ((5, 4), (3, 2), ((1, 0), (1, 1)))]),
    ("halves", "sum_of_ways", [("arms", "arms"), ("arm", "arm")], [(((5, 4), (1, 0)), (3, 2)), (((5, 4), (1, 1)), (3, 2))]),
    ("halves", "median", [("arms", "arms")], [(((5, 4), (3, 2), (3, -2)),), (((5, 4), (3, 2)),), (((5, 4), (1, 1), (1, 1)),)]),
    ("halves", "halves", [("edge", "edge"), ("other", "edge")],
     [(((0, 0), (1, 1)), ((0, 1), (2, 0))), (FLAT, STEEP), (FLAT, AFAR)]),
    ("edges", "lies_in", [("field", "field"), ("edge", "edge")], [(ELL, FLAT), (ELL, AFAR)]),
    ("edges", "edges_in", [("field", "field")], [(ELL,)]),
    ("edges", "edges_at", [("field", "field"), ("middle", "pair")], [(ELL, (2, 1)), (ELL, (3, 3)), (ELL, (2, 2))]),
    ("edges", "crossings", [("edges", "edges")], [((FLAT, STEEP, AFAR, FLAT),), ((),)]),
    ("edges", "first_crossing", [("edges", "edges")], [((FLAT, STEEP, AFAR, FLAT),), ((),)]),
    ("edges", "stand_together", [("field", "field"), ("edges", "edges")], [(ELL, (FLAT,)), (ELL, (FLAT, STEEP)), (ELL, (AFAR,))]),
    ("edges", "edges_beside", [("field", "field"), ("edges", "edges")],
     [(ELL, (FLAT,)), (ELL, (STEEP, FLAT, AFAR)), (ELL, (AFAR,)), (ELL, ())]),
    ("edges", "most_at", [("field", "field")], [(ELL,)]),
    ("cuts", "is_cut", [("field", "field"), ("thing", "thing")], [(ELL, CUT), (ELL, CUT[1:])]),
    ("cuts", "completed", [("field", "field"), ("edges", "inside")],
     [(ELL, (STEEP, ((0, 0), (0, 1)), STEEP)), (ELL, (STEEP, FLAT)), (GREAT, ())]),
    ("cuts", "edge_in", [("field", "field"), ("cut", "cut"), ("middle", "pair")], [(ELL, CUT, (2, 1)), (ELL, CUT, (3, 3))]),
    ("cuts", "triangles", [("field", "field"), ("cut", "cut")], [(ELL, CUT), (ELL, MILD)]),
    ("cuts", "far_dots", [("field", "field"), ("cut", "cut"), ("middle", "pair")], [(ELL, CUT, (2, 1)), (ELL, CUT, (2, 2))]),
    ("cuts", "three_sides", [("triangle", "triangle")], [(PARTS[1],)]),
    ("cuts", "cut_of", [("field", "field"), ("triangles", "triangles")], [(ELL, PARTS), (ELL, PARTS[1:]), (ELL, ())]),
    ("allcuts", "all_cuts", [("field", "field"), ("edges", "inside")], [(ELL, (STEEP,)), (ELL, (FLAT, STEEP)), (GREAT, ())]),
    ("allcuts", "cuts_out_of", [("field", "field"), ("edges", "inside")], [(ELL, CUT + MILD), (ELL, ()), (ELL, CUT)]),
    ("allcuts", "many_beside", [("field", "field"), ("edges", "inside")], [(ELL, (STEEP,)), (ELL, (FLAT, STEEP)), (GREAT, ())]),
    ("allcuts", "cut_by_digits", [("field", "field"), ("edges", "inside"), ("number", "count")],
     [(ELL, (STEEP,), 10 ** 30 + 3), (ELL, (FLAT, STEEP), 0), (GREAT, (), 77)]),
    ("allcuts", "digits_of", [("field", "field"), ("edges", "inside"), ("cut", "cut")],
     [(ELL, (STEEP,), MILD), (ELL, (FLAT, STEEP), CUT), (ELL, (STEEP,), CUT)]),
    ("counting", "is_rest", [("thing", "thing")], [(REST,), (ELL,), (5,)]),
    ("counting", "rest_of", [("field", "field")], [(ELL,)]),
    ("counting", "base_edge", [("rest", "rest")], [(REST,)]),
    ("counting", "tips", [("rest", "rest")], [(REST,)]),
    ("counting", "rests_behind", [("rest", "rest"), ("dot", "dot")], [(REST, (1, 1)), (REST, (2, 0))]),
    ("counting", "many_cuts", [("field", "field"), ("edges", "inside")], [(ELL, (STEEP,)), (ELL, (FLAT, STEEP)), (GREAT, ())]),
    ("counting", "many_rests", [("field", "field"), ("edges", "inside")], [(ELL, (STEEP,)), (ELL, (FLAT, STEEP)), (GREAT, ())]),
    ("counting", "counts_at", [("field", "field"), ("middle", "pair")], [(ELL, (2, 1)), (ELL, (3, 3)), (GREAT, (1, 1)), (GREAT, (0, 1))]),
    ("counting", "cut_number", [("field", "field"), ("cut", "cut")], [(ELL, CUT), (ELL, LAST), (GREAT, own_completed(GREAT))]),
    ("counting", "cut_by_number", [("field", "field"), ("number", "count")], [(ELL, 3), (ELL, 10 ** 9), (GREAT, 0)]),
    ("turns", "new_edge", [("field", "field"), ("cut", "cut"), ("middle", "pair")],
     [(ELL, CUT, (2, 1)), (ELL, CUT, (3, 3)), (ELL, CUT, (1, 1))]),
    ("turns", "can_turn", [("field", "field"), ("cut", "cut"), ("middle", "pair")], [(ELL, CUT, (2, 1)), (ELL, CUT, (3, 3))]),
    ("turns", "turns", [("field", "field"), ("cut", "cut")], [(ELL, CUT), (ELL, LAST)]),
    ("turns", "turned", [("field", "field"), ("cut", "cut"), ("middle", "pair")],
     [(ELL, CUT, (2, 1)), (ELL, CUT, (3, 3)), (ELL, CUT, (1, 1))]),
    ("turns", "behind", [("field", "field"), ("cut", "cut"), ("plan", "plan")], [(ELL, CUT, ((2, 1), (1, 2))), (ELL, CUT, ((2, 2),))]),
    ("turns", "cuts_along", [("field", "field"), ("cut", "cut"), ("plan", "plan")],
     [(ELL, CUT, ((2, 1), (1, 2))), (ELL, CUT, ((2, 2),)), (ELL, CUT, ())]),
    ("turns", "is_turned_by", [("field", "field"), ("cut", "cut"), ("thing", "thing")], [(ELL, CUT, ((2, 1), (1, 2))), (ELL, CUT, 5)]),
    ("turns", "undone", [("plan", "plan")], [(((2, 1), (1, 1)),), ((),)]),
    ("fewest", "fewest", [("field", "field"), ("cut", "cut"), ("other", "cut")], [(ELL, CUT, LAST), (ELL, CUT, CUT)]),
    ("fewest", "ways", [("field", "field"), ("cut", "cut"), ("other", "cut")], [(ELL, CUT, LAST), (ELL, CUT, CUT)]),
    ("fewest", "shares", [("field", "field"), ("cut", "cut"), ("other", "cut")], [(ELL, CUT, LAST), (ELL, CUT, CUT)]),
    ("fewest", "plan", [("field", "field"), ("cut", "cut"), ("other", "cut")], [(ELL, CUT, LAST), (ELL, CUT, CUT)]),
    ("fewest", "is_plan", [("field", "field"), ("cut", "cut"), ("other", "cut"), ("thing", "thing")],
     [(ELL, CUT, MILD, ((2, 1), (1, 2))), (ELL, CUT, LAST, 5)]),
    ("fewest", "first_turns", [("field", "field"), ("cut", "cut"), ("other", "cut")], [(ELL, CUT, LAST), (ELL, CUT, CUT)]),
    ("fewest", "longest_unlike", [("field", "field"), ("cut", "cut"), ("other", "cut")], [(ELL, CUT, LAST), (ELL, CUT, CUT)]),
    ("middles", "median_cut", [("field", "field"), ("cuts", "cuts")], [(ELL, (CUT, LAST, MILD)), (ELL, (CUT,))]),
    ("middles", "is_middle", [("field", "field"), ("cuts", "cuts"), ("thing", "thing")],
     [(ELL, (CUT, LAST, MILD), MILD), (ELL, (CUT,), None)]),
    ("middles", "majority", [("field", "field"), ("cuts", "cuts")], [(ELL, (CUT, LAST, MILD)), (ELL, (CUT,))]),
    ("middles", "sum_to", [("field", "field"), ("cut", "cut"), ("cuts", "cuts")], [(ELL, LAST, (CUT, LAST, MILD))]),
    ("middles", "is_between", [("field", "field"), ("cut", "cut"), ("other", "cut"), ("thing", "thing")],
     [(ELL, CUT, LAST, MILD), (ELL, CUT, MILD, LAST), (ELL, CUT, LAST, None)]),
    ("middles", "between", [("field", "field"), ("cut", "cut"), ("other", "cut")], [(ELL, CUT, LAST), (ELL, CUT, CUT)]),
    ("nearest", "nearest", [("field", "field"), ("cut", "cut"), ("edges", "inside")], [(ELL, LAST, (FLAT,)), (ELL, LAST, (STEEP, FLAT))]),
    ("nearest", "far_from", [("field", "field"), ("cut", "cut"), ("edges", "inside")], [(ELL, LAST, (FLAT,)), (ELL, LAST, (STEEP, FLAT))]),
    ("nearest", "is_nearest", [("field", "field"), ("cut", "cut"), ("edges", "inside"), ("thing", "thing")],
     [(ELL, LAST, (), LAST), (ELL, LAST, (FLAT,), None), (ELL, LAST, (STEEP, FLAT), LAST)]),
    ("nearest", "arms_left", [("field", "field"), ("edges", "inside"), ("middle", "pair")],
     [(ELL, (((0, 0), (1, 1)),), (2, 1)), (ELL, (STEEP, FLAT), (3, 3)), (ELL, (STEEP, FLAT), (2, 1))]),
    ("nearest", "nearest_arm", [("field", "field"), ("edges", "inside"), ("middle", "pair"), ("arm", "late arm")],
     [(ELL, (((0, 0), (1, 1)),), (2, 1), (4, 3)), (ELL, (STEEP, FLAT), (3, 3), None), (ELL, (STEEP, FLAT), (2, 1), (0, 1)),
      (ELL, (STEEP, FLAT), (2, 1), (1, 0))]),
    ("strips", "strip_field", [("strip", "strip")], [((2, 1),)]),
    ("strips", "is_strip", [("thing", "thing")], [((2, 1),), (5,)]),
    ("strips", "is_strip_row", [("thing", "thing")], [(ROW,), (5,)]),
    ("strips", "strip_of", [("row", "row")], [(ROW,)]),
    ("strips", "row_of", [("strip", "strip"), ("cut", "cut")], [((2, 1), (((0, 1), (1, 0)), ((0, 1), (2, 0))))]),
    ("strips", "cut_of_row", [("row", "row")], [(ROW,)]),
    ("strips", "many_rows", [("strip", "strip")], [((2, 1),), ((30, 28),)]),
    ("strips", "rows_off", [("strip", "strip"), ("turns", "count")], [((3, 2), 3), ((2, 2), 99)]),
    ("strips", "row_number", [("row", "row")], [(ROW,)]),
    ("strips", "row_by_number", [("strip", "strip"), ("number", "count")], [((2, 1), 1), ((2, 1), 3)]),
    ("strips", "row_steps", [("row", "row"), ("other", "row")], [(ROW, ROW_BACK), (ROW, ROW + ROW)]),
    ("strips", "row_plan", [("row", "row"), ("other", "row")], [(ROW, ROW_BACK), (ROW, ROW)]),
    ("strips", "row_behind", [("row", "row"), ("plan", "row plan")], [(ROW, ((2, 1), (1, 1))), (ROW, ((1, 1),)), (ROW, ())]),
    ("strips", "middle_row", [("rows", "rows")], [((ROW, ROW_BACK, ("below", "above", "below")),), ((ROW,),)]),
    ("texts", "is_sheet", [("thing", "thing")], [(SHEET,), (5,)]),
    ("texts", "sheet_text", [("sheet", "sheet")], [(SHEET,), ((ELL, (), ()),)]),
    ("texts", "read_sheet", [("text", "text")], [("field 0 0 1 0 0 1\nturn 1 1 # x",), ("\nfield 0",), ("",), ("field\n.",)]),
    ("texts", "picture_text", [("field", "field"), ("edges", "held")], [(ELL, CUT), (ELL, (RIM,)), (ELL, ()), (LARGE, ())]),
    ("held", "in_both", [("field", "field"), ("cut", "cut"), ("other", "cut")], [(ELL, CUT, LAST), (ELL, CUT, MILD)]),
    ("held", "loose", [("field", "field"), ("held", "held")], [(ELL, (RIM, STEEP)), (ELL, ()), (ELL, CUT)]),
    ("held", "turns_held", [("field", "field"), ("cut", "cut"), ("held", "held")],
     [(ELL, CUT, (FLAT,)), (ELL, CUT, (STEEP,)), (ELL, LAST, ()), (ELL, LAST, (RIM, STEEP))]),
    ("held", "fewest_held", [("field", "field"), ("cut", "cut"), ("other", "cut"), ("held", "held")],
     [(ELL, CUT, MILD, CUT[:1]), (ELL, CUT, MILD, (FLAT,)), (ELL, MILD, CUT, (FLAT,)), (ELL, CUT, LAST, ())]),
    ("held", "plan_held", [("field", "field"), ("cut", "cut"), ("other", "cut"), ("held", "held")],
     [(ELL, CUT, MILD, CUT[:1]), (ELL, CUT, MILD, (FLAT,)), (ELL, CUT, LAST, ())]),
    ("held", "is_held_plan", [("field", "field"), ("cut", "cut"), ("other", "cut"), ("held", "held"), ("thing", "thing")],
     [(ELL, CUT, MILD, CUT[:1], ((2, 1), (1, 2))), (ELL, CUT, MILD, (FLAT,), ((2, 1), (1, 2))), (ELL, CUT, MILD, (), None)]),
    ("held", "last_turns", [("field", "field"), ("cut", "cut"), ("other", "cut")], [(ELL, CUT, LAST), (ELL, CUT, CUT)]),
    ("least", "squares", [("field", "field"), ("cut", "cut")], [(ELL, CUT), (ELL, LAST)]),
    ("least", "shortening", [("field", "field"), ("cut", "cut")], [(ELL, CUT), (ELL, LAST)]),
    ("least", "is_least", [("field", "field"), ("cut", "cut")], [(ELL, CUT), (ELL, LAST)]),
    ("least", "way_down", [("field", "field"), ("cut", "cut")], [(ELL, CUT), (ELL, LAST)]),
    ("least", "is_way_down", [("field", "field"), ("cut", "cut"), ("thing", "thing")],
     [(ELL, CUT, ((1, 2), (2, 1))), (ELL, CUT, ()), (ELL, CUT, None)]),
    ("least", "turns_down", [("field", "field"), ("cut", "cut")], [(ELL, CUT), (ELL, LAST)]),
    ("least", "least_behind", [("field", "field"), ("cut", "cut")], [(ELL, CUT), (ELL, LAST)]),
    ("least", "loose_middles", [("field", "field")], [(ELL,)]),
    ("least", "many_least", [("field", "field")], [(ELL,)]),
    ("least", "least_cuts", [("field", "field")], [(ELL,), (GREAT,)]),
    ("least", "least_squares", [("field", "field")], [(ELL,)]),
    ("alike", "sheared_dot", [("shear", "shear"), ("dot", "dot")], [(SHEAR, (1, 1)), (SWAP, (-4, 7))]),
    ("alike", "sheared_middle", [("shear", "shear"), ("middle", "middle")], [(SHEAR, (2, 1)), (SWAP, (-4, 7))]),
    ("alike", "sheared_edges", [("shear", "shear"), ("edges", "edges")], [(SHEAR, CUT), (SWAP, (STEEP, FLAT, STEEP)), (SWAP, ())]),
    ("alike", "sheared_field", [("shear", "shear"), ("field", "field")], [(SHEAR, ELL), (SWAP, ELL)]),
    ("alike", "back_shear", [("shear", "shear")], [(SHEAR,), (SWAP,)]),
    ("alike", "both_shears", [("shear", "shear"), ("other_shear", "shear")], [(SHEAR, SWAP), (SWAP, SHEAR)]),
    ("alike", "is_shear", [("thing", "thing")], [(SHEAR,), (5,)]),
    ("alike", "keeps_turn", [("shear", "shear")], [(SHEAR,), (SWAP,)]),
    ("alike", "alike", [("field", "field"), ("other", "field")], [(ELL, own_field([(2 * y - x, y + 4) for x, y in ELL])), (ELL, GREAT)]),
    ("alike", "is_alike_by", [("field", "field"), ("other", "field"), ("thing", "thing")], [(ELL, ELL, SWAP), (ELL, ELL, SHEAR), (ELL, GREAT, 5)]),
    ("alike", "all_alike", [("field", "field"), ("other", "field")], [(ELL, ELL), (ELL, GREAT)]),
    ("sure", "lots", [("field", "field"), ("edges", "held")], [(ELL, (FLAT,)), (ELL, (RIM,)), (ELL, ())]),
    ("sure", "sure_edges", [("field", "field"), ("edges", "held")], [(ELL, (FLAT,)), (ELL, ())]),
    ("sure", "is_sure", [("field", "field"), ("edges", "held"), ("edge", "edge")], [(ELL, (FLAT,), FLAT), (ELL, (), STEEP), (ELL, (), AFAR)]),
    ("sure", "other_edge", [("field", "field"), ("edges", "held"), ("edge", "edge")],
     [(ELL, (), FLAT), (ELL, (FLAT,), STEEP), (ELL, (FLAT,), FLAT), (ELL, (), AFAR)]),
    ("sure", "is_other_edge", [("field", "field"), ("edges", "held"), ("edge", "edge"), ("thing", "thing")],
     [(ELL, (), FLAT, STEEP), (ELL, (FLAT,), STEEP, FLAT), (ELL, (FLAT,), FLAT, None)]),
    ("sure", "lot_way", [("field", "field"), ("edges", "held"), ("edge", "edge"), ("other", "edge")],
     [(ELL, (), FLAT, ((0, 1), (2, 0))), (ELL, (), FLAT, CUT[0]), (ELL, (FLAT,), FLAT, FLAT), (ELL, (FLAT,), FLAT, STEEP)]),
    ("sure", "spread", [("field", "field"), ("edges", "held")], [(ELL, (FLAT,)), (ELL, ())]),
    ("sure", "no_further", [("field", "field"), ("edges", "held")], [(ELL, (FLAT,)), (ELL, ())]),
    ("judge", "is_demand", [("thing", "thing")], [(own,) for own in DEMANDS] + [(None,)]),
    ("judge", "is_so", [("demand", "demand")], [(own,) for own in DEMANDS + [TOO_MANY]]),
    ("judge", "paper_against", [("demand", "demand")], [(own,) for own in DEMANDS + [TOO_MANY]]),
    ("judge", "is_paper_against", [("demand", "demand"), ("thing", "thing")],
     [(DEMANDS[1], (FLAT, STEEP)), (DEMANDS[0], (STEEP,)), (DEMANDS[7], MILD), (TOO_MANY, None)]),
    ("judge", "reason_for", [("demand", "demand")], [(own,) for own in DEMANDS + [TOO_MANY]]),
    ("judge", "is_reason_for", [("demand", "demand"), ("thing", "thing")],
     [(DEMANDS[0], MILD), (DEMANDS[2], ((2, 1), (1, 2))), (DEMANDS[1], CUT), (TOO_MANY, None)]),
    ("judge", "first_fallen", [("demands", "demands")], [(DEMANDS,), (DEMANDS[::2],), ((),), ((DEMANDS[0], TOO_MANY),)]),
    ("joins", "is_path", [("field", "field"), ("thing", "thing")], [(ELL, ((0, 1), (1, 0))), (ELL, None)]),
    ("joins", "short_paths", [("field", "field")], [(ELL,)]),
    ("joins", "parted", [("field", "field"), ("dots", "path")], [(ELL, ((0, 1), (1, 0))), (ELL, FLAT[::-1])]),
    ("joins", "cut_parted", [("field", "field"), ("dots", "path"), ("cut", "cut")], [(ELL, FLAT, CUT), (ELL, FLAT, MILD)]),
    ("joins", "put_together", [("field", "field"), ("other", "field")], [(ELL, ((1, 1), (2, 1), (1, 2))), (ELL, ELL)]),
    ("joins", "cuts_together", [("field", "field"), ("cut", "cut"), ("other", "field"), ("far", "far cut")],
     [(ELL, CUT, ((1, 1), (2, 1), (1, 2)), ()), (ELL, CUT, ((5, 5), (6, 5), (5, 6)), ())]),
]


# The names that each module must have.

INTERFACE = {module: names.split() for module, names in {
    "errors": "NoDot NoEdge NoMiddle NothingDone BadText Broken CanNot Crossing TooMany Unfit",
    "signs": "pieces text_of number_of piece_of",
    "dots": "is_dot is_arm is_edge can_be_middle edge middle_of arm_of kind_of square_of edge_at cross side_of area_of edges_between",
    "fields": "is_field field_of place_of half_place_of inner_dots rim_dots all_dots rim_edges middles numbers",
    "arms": "are_neighbours neighbours elder root_of depth way length at_step",
    "halves": "base_of is_in_half many_in_half sum_of_ways median halves",
    "edges": "lies_in edges_in edges_at crossings first_crossing stand_together edges_beside most_at",
    "cuts": "is_cut completed edge_in triangles far_dots three_sides cut_of",
    "allcuts": "all_cuts cuts_out_of many_beside cut_by_digits digits_of",
    "counting": "is_rest rest_of base_edge tips rests_behind many_cuts many_rests counts_at cut_number cut_by_number",
    "turns": "new_edge can_turn turns turned behind cuts_along is_turned_by undone",
    "fewest": "fewest ways shares plan is_plan first_turns longest_unlike",
    "middles": "median_cut is_middle majority sum_to is_between between",
    "nearest": "nearest far_from is_nearest arms_left nearest_arm",
    "texts": "is_sheet sheet_text read_sheet picture_text",
    "held": "in_both loose turns_held fewest_held plan_held is_held_plan last_turns",
    "strips": "strip_field is_strip is_strip_row strip_of row_of cut_of_row many_rows rows_off row_number row_by_number row_steps row_plan row_behind"
              " middle_row",
    "least": "squares shortening is_least way_down is_way_down turns_down least_behind loose_middles many_least least_cuts least_squares",
    "alike": "sheared_dot sheared_middle sheared_edges sheared_field back_shear both_shears is_shear keeps_turn alike is_alike_by all_alike",
    "sure": "lots sure_edges is_sure other_edge is_other_edge lot_way spread no_further",
    "judge": "is_demand is_so paper_against is_paper_against reason_for is_reason_for first_fallen",
    "joins": "is_path short_paths parted cut_parted put_together cuts_together",
    "desk": "Desk",
}.items()}


def function_of(module, name):
    """The function of this name, from the module that must have it."""
    return getattr(importlib.import_module("middledots." + module), name)


