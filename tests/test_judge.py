"""[23]: DEMANDS of five words, PAPERS against them, REASONS for them."""

import random
import unittest
from functools import lru_cache

from middledots import judge
from middledots.errors import TooMany, Unfit
from tests.calls import DEMANDS, GREAT, TOO_MANY, WRONG_DEMANDS
from tests.cutting import (arm, bent, drawn_plan, middle, own_completed, own_cuts, own_lots, own_net, own_rim, own_steps, own_with, small_fields,
                           with_bools)
from tests.helpers import ELL, listed, own_cross, own_length, own_lies_in, own_way, random_edge, told

FIELDS = [field for field in small_fields(501, 40, 80) if own_lots(field)]
WORDS = ("stand", "fewest", "nearest", "sure", "many")


# The tests' own reckoning.

def arms_of(cut):
    return {middle(edge): arm(edge) for edge in cut}


@lru_cache(maxsize=None)
def own_stands(demand):
    word, field, *parts = demand
    if word == "stand":
        return own_papers(demand) == []
    if word == "fewest":
        return own_steps(field, parts[0])[parts[1]] <= parts[2]
    if word == "nearest":
        steps = own_steps(field, parts[0])
        return steps[parts[2]] == min(steps[own] for own in own_with(field, parts[1]))
    if word == "sure":
        return all(parts[0] in own for own in own_cuts(field))
    return len(own_with(field, parts[0])) <= parts[1]


@lru_cache(maxsize=None)
def own_papers(demand):
    """All PAPERS against demand, but for "many": the first one and the last one."""
    word, field, *parts = demand
    if word == "stand":
        edges = parts[0]
        return [(edge,) for edge in edges if not own_lies_in(field, edge)] + [(one, two) for one in edges for two in edges
                                                                              if one < two and own_cross(one, two)]
    if own_stands(demand):
        return []
    if word == "fewest":
        arms, others = arms_of(parts[0]), arms_of(parts[1])
        return [tuple((spot, own_way(arms[spot], others[spot])) for spot in sorted(arms) if arms[spot] != others[spot])]
    if word == "nearest":
        steps = own_steps(field, parts[0])
        return [own for own in own_with(field, parts[1]) if steps[own] < steps[parts[2]]]
    if word == "sure":
        return [own for own in own_cuts(field) if parts[0] not in own]
    cuts = own_with(field, parts[0])
    return [tuple(cuts[:parts[1] + 1]), tuple(cuts[len(cuts) - parts[1] - 1:])]


@lru_cache(maxsize=None)
def own_reasons(demand):
    """All REASONS for demand, but for "fewest": none."""
    word, field, *parts = demand
    if word == "fewest" or not own_stands(demand):
        return []
    if word == "stand":
        return own_with(field, parts[0])
    if word == "nearest":
        arms, others = arms_of(parts[0]), arms_of(parts[2])
        return [tuple(own_length(arms[spot], others[spot]) for spot in sorted(arms))]
    if word == "sure":
        return [own_lots(field)[middle(parts[0])]]
    return [tuple(own_with(field, parts[0]))]


def own_is_paper(demand, thing):
    if demand[0] == "many" and not own_stands(demand):
        cuts = [told(cut) for cut in own_with(demand[1], demand[2])]
        return (isinstance(thing, tuple) and len(thing) == demand[3] + 1 and all(told(own) in cuts for own in thing)
                and list(thing) == sorted(set(thing)))
    return told(thing) in [told(own) for own in own_papers(demand)]


def own_is_reason(demand, thing):
    if demand[0] == "fewest":
        if not isinstance(thing, tuple) or len(thing) > demand[4]:
            return False
        cut = demand[2]
        for spot in thing:
            if told(spot) not in [told(own) for own in own_net(demand[1])[cut]]:
                return False
            cut = own_net(demand[1])[cut][spot]
        return cut == demand[3]
    return told(thing) in [told(own) for own in own_reasons(demand)]


def some_edges(dice, field):
    """A set of EDGES that stand together, rim EDGES maybe among them."""
    cut = dice.choice(own_cuts(field))
    edges = dice.sample(cut, min(len(cut), dice.choice([0, 1, 2, 3]))) + dice.sample(sorted(own_rim(field)), dice.choice([0, 0, 1]))
    return tuple(sorted(edges))


def drawn_demand(dice, word, field):
    cut, other = dice.choice(own_cuts(field)), dice.choice(own_cuts(field))
    if word == "stand":
        lots = list(own_lots(field).values())
        found = {dice.choice(dice.choice(lots)) for _ in range(dice.choice([1, 2, 4]))} | ({random_edge(dice, 3, 2)} if dice.random() < 0.3 else set())
        return (word, field, dice.choice([tuple(sorted(found)), some_edges(dice, field), tuple(sorted(cut + tuple(own_rim(field))))]))
    if word == "fewest":
        return (word, field, cut, other, max(0, own_steps(field, cut)[other] + dice.choice([-2, -1, 0, 0, 1, 4, 10 ** 30])))
    if word == "nearest":
        edges = some_edges(dice, field)
        steps = own_steps(field, cut)
        having = sorted(own_with(field, edges), key=lambda own: (steps[own], own))
        return (word, field, cut, edges, dice.choice([having[0], dice.choice(having)]))
    if word == "sure":
        single = [lot[0] for lot in own_lots(field).values() if len(lot) == 1]
        return (word, field, dice.choice(single) if single and dice.random() < 0.5 else dice.choice(cut))
    edges = some_edges(dice, field)
    return (word, field, edges, max(0, len(own_with(field, edges)) + dice.choice([-999, -5, -1, -1, 0, 0, 1, 10 ** 30])))


@lru_cache(maxsize=None)
def drawn(seed, many):
    dice = random.Random(seed)
    return [drawn_demand(dice, word, field) for field in FIELDS for word in WORDS for _ in range(many)]


def bent_things(dice, field, value):
    """Things like value, a tuple, that are not quite it."""
    found = [list(value), listed(value, 2), listed(value, 4), (value,), value + value, value[:-1], value[1:], value[::-1], value + (None,),
             value[:-1] + (5,), with_bools(value), value + (value[-1],) if value else ((),)]
    cut = dice.choice(own_cuts(field))
    return found + [cut, (cut,), tuple(own_cuts(field)[:2]), tuple(own_cuts(field)), (), None, True, 0, "paper", drawn_plan(dice, field, cut, 2)[0],
                    own_lots(field)[middle(cut[0])], some_edges(dice, field)]


class Stands(unittest.TestCase):
    def test_beside_all_cuts(self):
        seen = {}
        for demand in drawn(502, 6):
            self.assertIs(judge.is_demand(demand), True)
            self.assertIs(judge.is_so(demand), own_stands(demand), demand)
            seen[demand[0], own_stands(demand)] = seen.get((demand[0], own_stands(demand)), 0) + 1
        self.assertEqual(len(seen), 10)
        self.assertGreater(min(seen.values()), 15)

    def test_those_of_the_calls(self):
        self.assertEqual([judge.is_so(demand) for demand in DEMANDS], [True, False] * 5)


class Papers(unittest.TestCase):
    def test_one_told_exactly_if_it_does_not_stand(self):
        for demand in drawn(503, 4):
            found = judge.paper_against(demand)
            if own_stands(demand):
                self.assertIsNone(found)
            else:
                self.assertTrue(own_is_paper(demand, found), demand)
                self.assertIs(judge.is_paper_against(demand, found), True)
            self.assertEqual(told(judge.paper_against(as_lists(demand))), told(found))

    def test_all_and_bent_ones(self):
        dice = random.Random(504)
        seen = {word: 0 for word in WORDS}
        for demand in drawn(505, 2):
            papers = own_papers(demand)
            things = papers[:10] + own_reasons(demand)[:3] + [thing for own in papers[:1] for thing in bent_things(dice, demand[1], own)]
            for thing in things or bent_things(dice, demand[1], ()):
                wanted = own_is_paper(demand, thing)
                seen[demand[0]] += wanted
                self.assertIs(judge.is_paper_against(demand, thing), wanted, (demand, thing))
        self.assertGreater(min(seen.values()), 15)

    def test_what_a_paper_is_alone(self):
        far, up, down = ((5, 5), (6, 6)), ((0, 0), (1, 1)), ((0, 1), (1, 0))
        demand = ("stand", ELL, (up, down, far))
        for thing, wanted in (((far,), True), ((up, down), True), ((down, up), False), ((up,), False), ((up, down, far), False), ((), False),
                              ((up, far), False), ((((7, 7), (8, 8)),), False), ((((1, 0), (1, 1)), ((0, 0), (2, 1))), False), (far, False),
                              ([far], False), ((far, far), False), ((((5, 5), [6, 6]),), False)):
            self.assertIs(judge.is_paper_against(demand, thing), wanted, thing)
        cuts = own_cuts(ELL)
        demand = ("many", ELL, (), 1)
        for thing, wanted in ((tuple(cuts[:2]), True), (tuple(cuts[3:5]), True), ((cuts[7], cuts[0]), False), ((cuts[0], cuts[0]), False),
                              (tuple(cuts[:3]), False), (tuple(cuts[:1]), False), (cuts[:2], False), ((cuts[0], cuts[1][1:]), False), ((0, 1), False),
                              ((cuts[0], list(cuts[1])), False), ((cuts[2], cuts[9]), True), ((cuts[-2], cuts[-1]), True)):
            self.assertIs(judge.is_paper_against(demand, thing), wanted, thing)

    def test_one_edge_of_several_outside(self):
        edges = (((-2, 0), (-1, 0)), ((0, 0), (1, 1)), ((4, 4), (5, 5)), ((5, 5), (6, 6)))
        self.assertIn(judge.paper_against(("stand", ELL, edges)), [(edge,) for edge in edges if edge != ((0, 0), (1, 1))])
        # Outside, and crossing one another: each shows it alone, both as well.
        both = (((4, 4), (5, 5)), ((4, 5), (5, 4)))
        for thing in (both, both[:1], both[1:]):
            self.assertIs(judge.is_paper_against(("stand", ELL, both), thing), True)

    def test_true_is_no_number_in_ways(self):
        for demand in drawn(506, 1):
            if demand[0] == "fewest" and not own_stands(demand):
                paper = own_papers(demand)[0]
                self.assertIs(judge.is_paper_against(demand, paper), True)
                if told(with_bools(paper)) != told(paper):
                    self.assertIs(judge.is_paper_against(demand, with_bools(paper)), False)


class Reasons(unittest.TestCase):
    def test_one_told_exactly_if_it_stands(self):
        for demand in drawn(507, 4):
            found = judge.reason_for(demand)
            if own_stands(demand):
                self.assertTrue(own_is_reason(demand, found), demand)
                self.assertIs(judge.is_reason_for(demand, found), True)
            else:
                self.assertIsNone(found)
            self.assertEqual(told(judge.reason_for(as_lists(demand))), told(found))

    def test_all_and_bent_ones(self):
        dice = random.Random(508)
        seen = {word: 0 for word in WORDS}
        for demand in drawn(509, 2):
            reasons = own_reasons(demand)[:10] + ([judge.reason_for(demand)] if own_stands(demand) else [])
            if demand[0] == "fewest":
                for _ in range(4):
                    way, along = drawn_plan(dice, demand[1], demand[2], dice.randint(0, 3))
                    reasons.append(way + way[::-1] + (judge.reason_for(demand) or ()))
            things = reasons + own_papers(demand)[:3] + [thing for own in reasons[:1] for thing in bent_things(dice, demand[1], own)]
            for thing in things or bent_things(dice, demand[1], ()):
                wanted = own_is_reason(demand, thing)
                seen[demand[0]] += wanted
                self.assertIs(judge.is_reason_for(demand, thing), wanted, (demand, thing))
        self.assertGreater(min(seen.values()), 15)

    def test_plans_of_just_so_many_turns(self):
        for field in FIELDS[:20]:
            cut = own_completed(field)
            for spot in list(own_net(field)[cut])[:2]:
                other = own_net(field)[cut][spot]
                for number, plan, wanted in ((1, (spot,), True), (2, (spot,), True), (2, (spot,) * 3, False), (3, (spot,) * 3, True), (10 ** 20, (spot,) * 5, True),
                                             (0, (spot,), False), (5, (spot,) * 2, False), (5, ((0, 0),), False), (5, [spot], False), (5, (list(spot),), False)):
                    self.assertIs(judge.is_reason_for(("fewest", field, cut, other, number), plan), wanted)

    def test_bent_cuts(self):
        dice = random.Random(510)
        for field in FIELDS[:25]:
            cut = own_completed(field)
            for thing in bent(dice, field, cut):
                if told(thing) not in [told(own) for own in own_cuts(field)]:
                    self.assertIs(judge.is_reason_for(("stand", field, ()), thing), False)
                    lot = max(own_lots(field).values(), key=len)
                    if len(lot) > 1:
                        self.assertIs(judge.is_paper_against(("sure", field, lot[0]), thing), False)

    def test_true_is_no_number_in_lengths(self):
        for demand in drawn(511, 3):
            if demand[0] == "nearest" and own_stands(demand):
                lengths = judge.reason_for(demand)
                self.assertIs(judge.is_reason_for(demand, with_bools(lengths)), told(with_bools(lengths)) == told(lengths))
                self.assertIs(judge.is_reason_for(demand, lengths[:-1] + (lengths[-1] + 1,)), False)
                self.assertIs(judge.is_reason_for(demand, lengths + (0,)), False)


class Demands(unittest.TestCase):
    def test_bent_parts(self):
        for wrong in WRONG_DEMANDS:
            self.assertIs(judge.is_demand(wrong), False)

    def test_lists_are_no_tuples(self):
        for demand in DEMANDS + [TOO_MANY]:
            self.assertIs(judge.is_demand(demand), True)
            for mask in range(1, 16):
                own = listed(demand, mask)
                if told(own) != told(demand):
                    self.assertIs(judge.is_demand(own), False)
            if told(with_bools_behind(demand)) != told(demand):
                self.assertIs(judge.is_demand(with_bools_behind(demand)), False)

    def test_what_must_be_so_in_the_field(self):
        up, down, rim, far = ((0, 0), (1, 1)), ((0, 1), (1, 0)), ((0, 0), (0, 1)), ((5, 5), (6, 6))
        cuts = own_cuts(ELL)
        having, lacking = [cut for cut in cuts if up in cut][0], [cut for cut in cuts if up not in cut][0]
        for demand, wanted in ((("stand", ELL, (up, down)), True), (("stand", ELL, (far,)), True), (("stand", ELL, (rim,)), True), (("stand", ELL, ()), True),
                               (("nearest", ELL, lacking, (up,), having), True), (("nearest", ELL, having, (up,), lacking), False),
                               (("nearest", ELL, lacking, (rim, up), having), True), (("nearest", ELL, lacking, (up, down), having), False),
                               (("nearest", ELL, lacking, (far,), having), False), (("sure", ELL, rim), False), (("sure", ELL, far), False),
                               (("sure", ELL, up), True), (("many", ELL, (up, down), 3), False), (("many", ELL, (rim,), 0), True),
                               (("many", ELL, (far,), 3), False), (("many", ELL, (), -1), False), (("fewest", ELL, having, lacking, -1), False),
                               (("fewest", ELL, having, lacking, 10 ** 40), True), (("many", ELL, (), 10 ** 40), True)):
            self.assertIs(judge.is_demand(demand), wanted, demand)
            if not wanted:
                for function in (judge.is_so, judge.paper_against, judge.reason_for, lambda own: judge.is_paper_against(own, None),
                                 lambda own: judge.is_reason_for(own, None), lambda own: judge.first_fallen((own,))):
                    with self.assertRaises(Unfit):
                        function(demand)


def as_lists(value):
    return list(map(as_lists, value)) if isinstance(value, tuple) else value


def with_bools_behind(demand):
    return demand[:1] + tuple(map(with_bools, demand[1:]))


class TooManyCuts(unittest.TestCase):
    def test_whatever_thing_is(self):
        for demand in (TOO_MANY, ("many", GREAT, (), 0), ["many", list(GREAT), [], 2000]):
            for function in (judge.is_so, judge.paper_against, judge.reason_for, lambda own: judge.is_paper_against(own, None),
                             lambda own: judge.is_paper_against(own, ()), lambda own: judge.is_reason_for(own, 5)):
                with self.assertRaises(TooMany):
                    function(demand)
            self.assertIs(judge.is_demand(demand), isinstance(demand, tuple))

    def test_just_so_many(self):
        # Strips side by side: (a + b over a) CUTS each. 1,716 are not too many, 3,432 are.
        field = ((0, 0), (7, 0), (6, 1), (0, 1))
        self.assertIs(judge.is_so(("many", field, (), 1716)), True)
        self.assertIs(judge.is_so(("many", field, (), 1715)), False)
        self.assertEqual(len(judge.reason_for(("many", field, (), 1716))), 1716)
        paper = judge.paper_against(("many", field, (), 1715))
        self.assertEqual((len(paper), paper), (1716, tuple(sorted(paper))))
        with self.assertRaises(TooMany):
            judge.is_so(("many", ((0, 0), (7, 0), (7, 1), (0, 1)), (), 3432))
        self.assertIs(judge.is_so(("many", ((0, 0), (7, 0), (7, 1), (0, 1)), (((0, 0), (7, 1)),), 1)), True)

    def test_first_fallen_when_it_comes_to_such_a_one(self):
        stands, falls = DEMANDS[0], DEMANDS[1]
        self.assertEqual(judge.first_fallen((stands, falls, TOO_MANY)), 1)
        self.assertEqual(judge.first_fallen([falls, TOO_MANY]), 0)
        for demands in ((TOO_MANY, falls), (stands, TOO_MANY, falls), (stands, stands, TOO_MANY)):
            with self.assertRaises(TooMany):
                judge.first_fallen(demands)
        with self.assertRaises(Unfit):
            judge.first_fallen((TOO_MANY, falls, None))


class FirstFallen(unittest.TestCase):
    def test_none_some_the_first_of_two(self):
        dice = random.Random(512)
        some = drawn(513, 2)
        stands, falls = [own for own in some if own_stands(own)], [own for own in some if not own_stands(own)]
        self.assertIsNone(judge.first_fallen(()))
        self.assertIsNone(judge.first_fallen([]))
        for _ in range(40):
            ahead = dice.sample(stands, dice.randint(0, 4))
            self.assertIsNone(judge.first_fallen(tuple(ahead)))
            self.assertIsNone(judge.first_fallen(as_lists(tuple(ahead))))
            demands = ahead + [dice.choice(falls)] + dice.sample(some, 2) + dice.sample(falls, 1)
            self.assertEqual(told(judge.first_fallen(tuple(demands))), told(len(ahead)))
            self.assertEqual(told(judge.first_fallen(as_lists(tuple(demands)))), told(len(ahead)))

    def test_unfit_ahead(self):
        stands, falls = DEMANDS[0], DEMANDS[1]
        for demands in ((falls, None), (stands, falls, ()), (falls, ("many", ELL, (), -1)), None, 5, "stand", stands, (falls, falls + (1,)), (stands[1:],),
                        ((falls,),), {}, (True,)):
            with self.assertRaises(Unfit):
                judge.first_fallen(demands)


if __name__ == "__main__":
    unittest.main()
