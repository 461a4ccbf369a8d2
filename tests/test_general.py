"""[1], [2], [3] and [26] for every function: names, lists for tuples, what is handed in, what is told, wrong arguments."""

import copy
import inspect
import unittest

from tests.calls import CALLS, GREAT, INTERFACE, WRONG_OF, function_of
from tests.helpers import listed, outcome, told

UNFIT = ("error", "Unfit", {})


def every_call():
    """Each function with the names and kinds of its arguments and each of the values for them."""
    for module, name, told_arguments, values in CALLS:
        for args in values:
            yield function_of(module, name), told_arguments, args


def is_slow(args):
    """Whether the FIELD with too many CUTS is among the arguments."""
    return repr(GREAT) in repr(args)


def kinds_to_list(told_arguments, args, mask):
    """The arguments with lists for tuples at the depths of mask; a thing, a text, a piece stay as they are."""
    return [listed(arg, mask) if kind not in ("thing", "text", "piece") else arg
            for (_, kind), arg in zip(told_arguments, args)]


class Interface(unittest.TestCase):
    def test_each_function_is_defined_in_its_file_with_its_arguments(self):
        for module, name, told_arguments, _ in CALLS:
            with self.subTest(module=module, name=name):
                function = function_of(module, name)
                self.assertEqual(function.__module__, "middledots." + module)
                self.assertEqual(list(inspect.signature(function).parameters), [own for own, _ in told_arguments])
                self.assertTrue(all(own.default is own.empty for own in inspect.signature(function).parameters.values()))

    def test_every_name_can_be_imported_from_its_module(self):
        for module, names in INTERFACE.items():
            for name in names:
                own = function_of(module, name)
                self.assertEqual((own.__module__, own.__name__), ("middledots." + module, name))

    def test_every_function_is_among_the_calls(self):
        called = [(module, name) for module, name, _, _ in CALLS]
        listed_ones = [(module, name) for module in INTERFACE for name in INTERFACE[module] if name[0].islower()]
        self.assertEqual(sorted(called), sorted(listed_ones))


class Arguments(unittest.TestCase):
    def test_by_position_and_by_name(self):
        for function, told_arguments, args in every_call():
            with self.subTest(function=function.__name__, args=args):
                names = {name: arg for (name, _), arg in zip(told_arguments, args)}
                self.assertEqual(outcome(function, *args), outcome(function, **names))

    def test_lists_for_tuples_at_each_depth(self):
        for function, told_arguments, args in every_call():
            wanted = outcome(function, *args)
            depths = 5 if "demands" in [kind for _, kind in told_arguments] else 4
            for mask in range(2 ** depths) if not is_slow(args) else (31,):
                with self.subTest(function=function.__name__, args=args, mask=mask):
                    own = kinds_to_list(told_arguments, args, mask)
                    names = {name: arg for (name, _), arg in zip(told_arguments, own)}
                    self.assertEqual(outcome(function, *own), wanted)
                    self.assertEqual(outcome(function, **names), wanted)

    def test_what_is_handed_in_is_left_as_it_was(self):
        for function, told_arguments, args in every_call():
            for mask in (0, 15):
                with self.subTest(function=function.__name__, args=args, mask=mask):
                    own = kinds_to_list(told_arguments, args, mask)
                    kept = copy.deepcopy(own)
                    outcome(function, *own)
                    self.assertEqual(told(own), told(kept))

    def test_a_told_list_is_a_new_one(self):
        for function, _, args in every_call():
            with self.subTest(function=function.__name__, args=args):
                wanted = outcome(function, *args)
                if wanted[0] == "value" and wanted[1][0] == "list":
                    first = function(*args)
                    self.assertIsNot(first, function(*args))
                    first.append("more")
                    first.reverse()
                    self.assertEqual(outcome(function, *args), wanted)

    def test_the_same_call_tells_the_same(self):
        for function, told_arguments, args in every_call():
            with self.subTest(function=function.__name__, args=args):
                wanted = outcome(function, *args)
                outcome(function, *kinds_to_list(told_arguments, args, 15))
                self.assertEqual(outcome(function, *args), wanted)

    def test_no_list_within_what_is_told(self):
        def parts(value):
            return [inner for part in value[1] for inner in [part] + parts(part)] if value[0] in ("list", "tuple") else []

        for function, told_arguments, args in every_call():
            for mask in (0, 15):
                with self.subTest(function=function.__name__, args=args, mask=mask):
                    found = outcome(function, *kinds_to_list(told_arguments, args, mask))
                    values = [found[1]] if found[0] == "value" else list(found[2].values())
                    within = [inner for value in values for inner in parts(value)]
                    self.assertNotIn("list", [inner[0] for inner in within])


class WrongArguments(unittest.TestCase):
    def test_unfit_ahead_of_all_for_each_wrong_argument(self):
        asked = {}
        for function, told_arguments, args in every_call():
            for place, (name, kind) in enumerate(told_arguments):
                beside = (function, place, repr(args[:place] + args[place + 1:]))
                # Once beside the same other arguments.
                for at, wrong in enumerate(WRONG_OF.get(kind, []) if beside not in asked else []):
                    asked[beside] = True
                    own = list(args)
                    own[place] = wrong
                    self.assertEqual(outcome(function, *own), UNFIT, (function.__name__, name, at))

    def test_every_kind_but_texts_and_things_is_checked(self):
        kinds = {kind for _, _, told_arguments, _ in CALLS for _, kind in told_arguments}
        self.assertEqual(kinds - set(WRONG_OF), {"text", "pieces", "piece", "number", "thing", "late arm"})


if __name__ == "__main__":
    unittest.main()
