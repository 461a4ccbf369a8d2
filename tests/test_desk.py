"""[25]: the Desk, its lines and answers, what is taken back and done once more, twins, ==."""

import copy
import inspect
import random
import unittest

from middledots.desk import Desk
from middledots.errors import BadText, NothingDone, Unfit
from tests.cutting import bent, drawn_plan, exchanged, middle, own_completed, own_cuts, own_lots, own_net, own_rim, own_steps, own_turns, small_fields
from tests.helpers import ELL, listed, made_fields, own_length, told

FIELDS = [field for field in small_fields(541, 40, 300) if own_lots(field)]
GREAT = [field for field in made_fields(542, 40, 6, 60) if 20 < len(own_lots(field)) < 60 and own_turns(field, own_completed(field))][:3]
SLOPE = ((0, 0), (2, 0), (1, 1), (0, 1))
LEFT = (((0, 0), (1, 1)), ((1, 0), (1, 1)))
WORDS = ("turn", "turn", "turn", "hold", "free", "edge", "turns", "held", "far")


class OwnDesk:
    """A desk of the test's own: all states that were, and at which one it is."""

    def __init__(self, field, cut):
        self.field, self.first = field, cut
        self.states, self.at = [(cut, frozenset())], 0

    def cut(self):
        return self.states[self.at][0]

    def held(self):
        return tuple(edge for edge in self.cut() if middle(edge) in self.states[self.at][1])

    def answer(self, line):
        """The state behind line, and the answer to it."""
        cut, held = self.state
        word, *numbers = line.split()
        turns = own_net(self.field)[cut]
        if not numbers:
            pairs = sorted(spot for spot in turns if spot not in held) if word == "turns" else sorted(held)
            return str(own_steps(self.field, self.first)[cut]) if word == "far" else listing(pairs)
        spot = tuple(map(int, numbers))
        if spot not in own_lots(self.field):
            return "no middle"
        if word == "edge":
            return listing(next(edge for edge in cut if middle(edge) == spot))
        if word == "free":
            self.state = (cut, held - {spot})
            return "done" if spot in held else "free"
        if spot in held:
            return "held"
        if word == "hold":
            self.state = (cut, held | {spot})
            return "done"
        self.state = (turns.get(spot, cut), held)
        return "done" if spot in turns else "no turn"

    def say(self, text):
        self.state = self.states[self.at]
        answers = tuple(self.answer(line) for line in text.split("\n"))
        if "done" in answers:
            self.states[self.at + 1:] = [self.state]
            self.at += 1
        return answers

    def step(self, by):
        if not 0 <= self.at + by < len(self.states):
            return None
        self.at += by
        return self.at


def listing(pairs):
    return ", ".join("%d %d" % pair for pair in pairs) or "none"


def drawn_lines(dice, field, cut, many):
    """So many lines: at MIDDLES of the field, at TURNS more often, some elsewhere."""
    spots, turns = list(own_lots(field)), sorted(own_net(field)[cut])
    lines = []
    for _ in range(many):
        word = dice.choice(WORDS)
        x, y = dice.choice(spots) if dice.random() < 0.5 or not turns else dice.choice(turns)
        if dice.random() < 0.1:
            x, y = dice.choice([(x + 1, y), (0, 0), (2 * x, 2 * y), (-x, y), (9999999, -9999999), tuple(map(sum, zip(*sorted(own_rim(field))[0])))])
        lines.append(word if word in ("turns", "held", "far") else "%s %d %d" % (word, x, y))
    return "\n".join(lines)


class Says(unittest.TestCase):
    def check_same(self, desk, own):
        self.assertEqual(told((desk.field(), desk.first(), desk.cut(), desk.held())), told((own.field, own.first, own.cut(), own.held())))

    def check_step(self, step, wanted):
        if wanted is None:
            with self.assertRaises(NothingDone):
                step()
        else:
            self.assertEqual(told(step()), told(wanted))

    def test_beside_an_own_desk(self):
        dice = random.Random(543)
        answers, seen = {}, {}
        for field in FIELDS:
            cut = dice.choice(own_cuts(field))
            desk, own = Desk(field, cut), OwnDesk(field, cut)
            for _ in range(40):
                kind = dice.choice(["say", "say", "say", "undo", "undo", "redo"])
                if kind == "say":
                    text = drawn_lines(dice, field, own.cut(), dice.choice([1, 1, 2, 5]))
                    wanted = own.say(text)
                    self.assertEqual(told(desk.say(text)), told(wanted), text)
                    for line, answer in zip(text.split("\n"), wanted):
                        answers.setdefault(line.split()[0], {}).setdefault(answer, 0)
                else:
                    wanted = own.step(-1 if kind == "undo" else 1)
                    seen[kind, wanted is None] = seen.get((kind, wanted is None), 0) + 1
                    self.check_step(desk.undo if kind == "undo" else desk.redo, wanted)
                self.check_same(desk, own)
        self.assertEqual({word: {"done", "no middle", "held", "no turn", "free", "none"} & set(answers[word]) for word in answers},
                         {"turn": {"done", "no middle", "held", "no turn"}, "hold": {"done", "no middle", "held"}, "free": {"done", "no middle", "free"},
                          "edge": {"no middle"}, "turns": {"none"}, "held": {"none"}, "far": set()})
        self.assertEqual(len(seen), 4)
        self.assertGreater(min(seen.values()), 20)

    def test_of_refusals_the_first_one(self):
        desk = Desk(SLOPE, LEFT)
        # Held, and no TURN either.
        self.assertEqual(desk.say("turn 2 1\nhold 2 1\nturn 2 1\nfree 2 1\nturn 2 1"), ("no turn", "done", "held", "done", "no turn"))
        self.assertEqual(desk.say("hold 1 1\nturn 1 1\nhold 1 1\nfree 1 1\nturn 1 1"), ("done", "held", "held", "done", "done"))
        for word in ("turn", "hold", "free", "edge"):
            self.assertEqual(desk.say(word + " 1 2\n" + word + " 0 0\n" + word + " 2 2\n" + word + " -1 1\n" + word + " 9999999 1"), ("no middle",) * 5)
        self.assertEqual(desk.say("free 2 1\nhold 2 1\nhold 2 1\nfree 2 1\nfree 2 1"), ("free", "done", "held", "done", "free"))

    def test_great_fields(self):
        dice = random.Random(544)
        for field in GREAT:
            cut = own_completed(field)
            plan, along = drawn_plan(dice, field, cut, 25)
            desk = Desk(field, cut)
            self.assertEqual(desk.say("\n".join("turn %d %d" % spot for spot in plan)), ("done",) * len(plan))
            self.assertEqual(desk.cut(), along[-1])
            arms = {middle(edge): (edge[1][0] - edge[0][0], edge[1][1] - edge[0][1]) for edge in cut}
            many = sum(own_length((bx - ax, by - ay), arms[ax + bx, ay + by]) for (ax, ay), (bx, by) in along[-1])
            self.assertEqual(desk.say("far\nturns"), (str(many), listing(sorted(own_turns(field, along[-1])))))
            self.assertEqual(desk.say("\n".join("edge %d %d" % middle(edge) for edge in along[-1])), tuple(map(listing, along[-1])))

    def test_negative_ones(self):
        field = ((-3, -5), (-1, -5), (-1, -4), (-3, -4))
        desk = Desk(field, own_completed(field))
        self.assertEqual(desk.say("edge -4 -9\nturns\nhold -4 -9\nheld\nturn -4 -9\nfree -4 -9\nturn -4 -9\nedge -4 -9\nfar"),
                         ("-3 -5, -1 -4", "-4 -9", "done", "-4 -9", "held", "done", "done", "-2 -5, -2 -4", "1"))


class Texts(unittest.TestCase):
    def bad(self, text, line):
        desk = Desk(SLOPE, LEFT)
        desk.say("hold 1 1")
        other = desk.twin()
        with self.assertRaises(BadText) as caught:
            desk.say(text)
        self.assertEqual(told(caught.exception.line), told(line), text)
        self.assertEqual(desk, other)
        self.assertEqual(desk.undo(), 0)

    def test_number_words(self):
        for word in ("0", "1", "-1", "12", "-7", "1234567", "-1234567", "9999999", "1000000", "-9999999", "10", "-10"):
            for line in ("turn %s 2", "hold 4 %s", "free %s 4", "edge 99 %s"):
                self.assertEqual(Desk(SLOPE, LEFT).say(line % word), ("no middle",), line % word)
        for word in ("01", "-0", "00", "-01", "12345678", "-12345678", "10000000", "+1", "--1", "-", "1-", "a", "1a", "0x1", "1.0", "1_0", "1,", "1\t",
                     "\u0661", "\u00b2", "00000001", "-00"):
            for line in ("turn %s 2", "hold 4 %s", "free %s 4", "edge 99 %s"):
                self.bad(line % word, 0)

    def test_lines_that_are_none(self):
        for line in ("", " ", "turn", "turn 1", "turn 1 1 1", "turn  1 1", "turn 1  1", "turn 1 1 ", " turn 1 1", "turns ", " turns", "turns 1 1", "turns 1",
                     "held 1 1", "far 0", "Turn 1 1", "TURNS", "turn1 1", "turn 1,1", "undo", "redo", "cut", "edge", "edge 2", "hold", "free 1", "hold 1 1 x",
                     "turn\t1 1", "far\r", "far#", "# far", "turn 1 1 # x", "turn one 1", "turn 1 1;", "1 1", "done", "none", "far far", "turn turn turn"):
            self.bad(line, 0)
            self.bad("turn 2 1\n" + line + "\nturn 1 1\nx", 1)
            self.bad("far\nturn 2 1\nheld\n" + line, 3)

    def test_line_breaks(self):
        self.bad("\n", 0)
        self.bad("far\n", 1)
        self.bad("far\n\nfar", 1)
        self.bad("turn 1 1\nturn 2 1\n", 2)
        self.bad("\nfar", 0)
        self.assertEqual(told(Desk(SLOPE, LEFT).say("far")), told(("0",)))
        self.assertEqual(told(Desk(SLOPE, LEFT).say("far\nfar\nheld")), told(("0", "0", "none")))

    def test_nothing_is_done_then(self):
        dice = random.Random(545)
        for field in FIELDS[:20]:
            desk = Desk(field, own_completed(field))
            for _ in range(5):
                desk.say(drawn_lines(dice, field, desk.cut(), 3))
                was = desk.twin()
                lines = drawn_lines(dice, field, desk.cut(), 5).split("\n")
                at = dice.randrange(5)
                lines[at] = dice.choice(["", "turn 1", "turns ", "turn 01 1", "x"])
                with self.assertRaises(BadText) as caught:
                    desk.say("\n".join(lines + ["y"]))
                self.assertEqual(told(caught.exception.line), told(at))
                self.assertEqual(desk, was)
                self.check_history(desk, was)

    def check_history(self, one, two):
        """What can be taken back, and done once more, is alike."""
        for name in ("undo", "redo"):
            one, two = one.twin(), two.twin()
            while True:
                try:
                    wanted = getattr(two, name)()
                except NothingDone:
                    break
                self.assertEqual(getattr(one, name)(), wanted)
                self.assertEqual(one, two)
            with self.assertRaises(NothingDone):
                getattr(one, name)()


class History(unittest.TestCase):
    def test_says_of_several_lines_are_taken_back_whole(self):
        desk = Desk(SLOPE, LEFT)
        self.assertEqual(desk.say("turn 1 1\nturn 2 1\nhold 2 1"), ("done",) * 3)
        self.assertEqual(desk.say("free 2 1\nfar\nturn 2 1"), ("done", "2", "done"))
        self.assertEqual((desk.undo(), desk.held(), desk.say("far")), (1, (((0, 1), (2, 0)),), ("2",)))
        self.assertEqual((desk.undo(), desk.held(), desk.cut()), (0, (), LEFT))
        self.assertEqual((desk.redo(), desk.redo(), desk.held(), desk.say("far")), (1, 2, (), ("1",)))
        with self.assertRaises(NothingDone):
            desk.redo()

    def test_those_that_did_nothing_are_left_out(self):
        desk = Desk(SLOPE, LEFT)
        desk.say("turn 1 1")
        for text in ("far", "turns\nheld", "turn 1 2", "free 1 1", "edge 1 1", "turn 9 9\nfar"):
            desk.say(text)
        self.assertEqual(desk.undo(), 0)
        for text in ("far", "hold 9 9", "free 1 1", "edge 1 1\nturns"):
            desk.say(text)
        self.assertEqual((desk.redo(), desk.cut() == LEFT), (1, False))

    def test_a_say_that_does_something_but_changes_nothing(self):
        desk = Desk(SLOPE, LEFT)
        desk.say("turn 1 1")
        desk.undo()
        # Done, and back again: it can be taken back, and ends what could be done once more.
        self.assertEqual(desk.say("hold 1 1\nfree 1 1"), ("done", "done"))
        with self.assertRaises(NothingDone):
            desk.redo()
        self.assertEqual((desk.undo(), desk.cut(), desk.held()), (0, LEFT, ()))
        self.assertEqual((desk.redo(), desk.cut(), desk.held()), (1, LEFT, ()))

    def test_one_that_does_something_ends_what_could_be_done_once_more(self):
        desk = Desk(SLOPE, LEFT)
        desk.say("turn 1 1")
        desk.say("turn 2 1")
        desk.undo()
        desk.undo()
        desk.say("hold 1 1")
        with self.assertRaises(NothingDone):
            desk.redo()
        self.assertEqual((desk.undo(), desk.held()), (0, ()))
        self.assertEqual((desk.redo(), desk.held()), (1, LEFT[:1]))

    def test_nothing_done(self):
        desk = Desk(SLOPE, LEFT)
        for step in (desk.undo, desk.redo):
            with self.assertRaises(NothingDone) as caught:
                step()
            self.assertEqual(vars(caught.exception), {})
        desk.say("far")
        for step in (desk.undo, desk.redo):
            with self.assertRaises(NothingDone):
                step()
        self.assertEqual((desk.field(), desk.cut(), desk.first(), desk.held()), (SLOPE, LEFT, LEFT, ()))

    def test_many(self):
        desk = Desk(SLOPE, LEFT)
        for _ in range(500):
            desk.say("turn 1 1")
        self.assertEqual([desk.undo() for _ in range(500)], list(range(499, -1, -1)))
        self.assertEqual([desk.redo() for _ in range(500)], list(range(1, 501)))


class Twins(unittest.TestCase):
    def test_alike_and_apart(self):
        dice = random.Random(546)
        for field in FIELDS[:25]:
            cut = dice.choice(own_cuts(field))
            desk, own = Desk(field, cut), OwnDesk(field, cut)
            for _ in range(12):
                text = drawn_lines(dice, field, own.cut(), 2)
                own.say(text)
                desk.say(text)
                if dice.random() < 0.3 and own.step(-1) is not None:
                    desk.undo()
            twin, kept = desk.twin(), copy.deepcopy(own)
            self.assertIsNot(twin, desk)
            self.assertIs(twin == desk, True)
            self.assertIs(twin != desk, False)
            # Whatever is done to one of both, the other one stays as it was, with all that can be taken back and done once more.
            one, other = (twin, desk) if dice.random() < 0.5 else (desk, twin)
            for _ in range(5):
                one.say(drawn_lines(dice, field, one.cut(), 2))
                if one.cut() != cut:
                    one.undo()
            self.assertEqual((other.cut(), other.held(), other.first(), other.field()), (kept.cut(), kept.held(), cut, field))
            while kept.step(1) is not None:
                self.assertEqual((other.redo(), other.cut(), other.held()), (kept.at, kept.cut(), kept.held()))
            while kept.step(-1) is not None:
                self.assertEqual((other.undo(), other.cut(), other.held()), (kept.at, kept.cut(), kept.held()))
            for step in (other.undo, lambda: other.twin().undo()):
                with self.assertRaises(NothingDone):
                    step()

    def test_a_twin_of_a_twin(self):
        desk = Desk(SLOPE, LEFT)
        desk.say("turn 1 1\nhold 1 1")
        desk.say("turn 2 1\nfree 1 1")
        desk.undo()
        other = desk.twin().twin()
        self.assertEqual((other == desk, other.redo(), other == desk, desk.redo(), other == desk), (True, 2, False, 2, True))


class Equal(unittest.TestCase):
    def test_come_there_by_other_ways(self):
        one, two = Desk(SLOPE, LEFT), Desk([list(dot) for dot in SLOPE], list(LEFT))
        self.assertIs(one == two, True)
        one.say("turn 1 1\nturn 2 1\nhold 2 1\nhold 1 1")
        self.assertIs(one == two, False)
        for text in ("hold 9 9", "turn 1 1", "turn 2 1", "hold 1 1"):
            two.say(text)
            self.assertIs(one == two, False)
            self.assertIs(one != two, True)
        two.say("hold 2 1")
        self.assertIs(one == two, True)
        self.assertIs(one != two, False)
        two.say("free 1 1")
        self.assertIs(one == two, False)

    def test_unlike_ones(self):
        field = FIELDS[0]
        cuts = own_cuts(field)
        for cut in cuts[:4]:
            for other in cuts[:4]:
                self.assertIs(Desk(field, cut) == Desk(field, other), cut == other)
                self.assertIs(Desk(field, cut) != Desk(field, other), cut != other)
        # With one CUT now, but another one at the beginning.
        right = (((0, 1), (1, 0)), ((0, 1), (2, 0)))
        one, two = Desk(SLOPE, LEFT), Desk(SLOPE, right)
        two.say("turn 2 1\nturn 1 1")
        self.assertEqual((one.cut(), one.held(), one.field()), (two.cut(), two.held(), two.field()))
        self.assertIs(one == two, False)
        moved = tuple((x + 1, y) for x, y in SLOPE)
        self.assertIs(one == Desk(moved, tuple(((a + 1, b), (c + 1, d)) for (a, b), (c, d) in LEFT)), False)
        self.assertIs(Desk(((0, 0), (1, 0), (0, 1)), ()) == Desk(((0, 0), (1, 0), (1, 1)), ()), False)

    def test_with_other_things(self):
        desk = Desk(SLOPE, LEFT)
        for thing in (None, True, 5, "desk", (SLOPE, LEFT), [SLOPE, LEFT], SLOPE, LEFT, {}, object(), Desk):
            self.assertIs(desk == thing, False)
            self.assertIs(desk != thing, True)
            self.assertIs(thing == desk, False)
        self.assertIs(desk == desk, True)


class Made(unittest.TestCase):
    def test_methods_and_their_arguments(self):
        wanted = {"__init__": ["self", "field", "cut"], "say": ["self", "text"], "field": ["self"], "cut": ["self"], "first": ["self"], "held": ["self"],
                  "undo": ["self"], "redo": ["self"], "twin": ["self"], "__eq__": ["self", "other"]}
        self.assertEqual(Desk.__module__, "middledots.desk")
        self.assertEqual(Desk.__bases__, (object,))
        for name, parameters in wanted.items():
            self.assertIn(name, vars(Desk))
            self.assertEqual(list(inspect.signature(vars(Desk)[name]).parameters), parameters)
        desk = Desk(field=SLOPE, cut=LEFT)
        self.assertEqual(desk.say(text="far"), ("0",))

    def test_what_is_handed_in_is_copied(self):
        field, cut = [list(dot) for dot in SLOPE], [[list(dot) for dot in edge] for edge in LEFT]
        kept = copy.deepcopy((field, cut))
        desk = Desk(field, cut)
        desk.say("turn 1 1")
        self.assertEqual((field, cut), kept)
        field[0][0], cut[0][0] = 9, [9, 9]
        cut.pop()
        desk.undo()
        self.assertEqual(told((desk.field(), desk.cut(), desk.first(), desk.held())), told((SLOPE, LEFT, LEFT, ())))

    def test_lists_for_tuples_at_each_depth(self):
        for mask in range(8):
            desk = Desk(listed(SLOPE, mask), listed(LEFT, mask))
            self.assertEqual(told((desk.field(), desk.cut(), desk.first(), desk.held())), told((SLOPE, LEFT, LEFT, ())))
            self.assertEqual(desk, Desk(cut=LEFT, field=SLOPE))

    def test_unfit(self):
        for field in (None, 5, "ab", (), SLOPE[::-1], SLOPE[1:] + SLOPE[:1], ((0, 0), (1, 0), (2, 0), (0, 1)), ((0, 0), (2, 0), (True, 1), (0, 1))):
            for cut in (LEFT, None, ()):
                with self.assertRaises(Unfit):
                    Desk(field, cut)
        for cut in (None, 5, "ab", (), LEFT[:1], LEFT[::-1], LEFT * 2, own_completed(ELL), (((0, 0), (1, 1)), ((0, 1), (2, 0))), (LEFT,)):
            with self.assertRaises(Unfit):
                Desk(SLOPE, cut)
        dice = random.Random(547)
        for field in FIELDS[:10]:
            for cut in bent(dice, field, own_completed(field)):
                if isinstance(cut, tuple) and not any(isinstance(part, list) for edge in cut if isinstance(edge, (tuple, list)) for part in (edge, *edge)):
                    with self.assertRaises(Unfit):
                        Desk(field, cut)

    def test_turned_cuts_are_the_own_ones(self):
        for field in FIELDS[:15]:
            cut = own_completed(field)
            for spot, new in own_turns(field, cut).items():
                desk = Desk(field, cut)
                self.assertEqual(desk.say("turn %d %d\nedge %d %d" % (spot + spot)), ("done", listing(new)))
                self.assertEqual(told(desk.cut()), told(exchanged(cut, spot, new)))
                self.assertEqual(told(desk.first()), told(cut))


if __name__ == "__main__":
    unittest.main()
