"""The rules for the code of the package that a test can see: its files, names, statements and sizes."""

import ast
import builtins
import pathlib
import unittest

PACKAGE = pathlib.Path(__file__).parent.parent / "middledots"
FILES = sorted(PACKAGE.rglob("*.py"))

LIBRARY = {"math": {"gcd", "lcm", "isqrt", "comb", "perm", "factorial"}, "heapq": {"heappush", "heappop", "heapify"},
           "itertools": {"product", "combinations", "permutations"}}
BUILTINS = set("""len range enumerate zip min max sum abs sorted reversed int str bool list tuple dict set isinstance ord repr any
                  all divmod ValueError LookupError KeyError IndexError True False None""".split())
METHODS = set("""append clear copy count endswith extend find get index insert isalnum isalpha isdigit islower isspace isupper
                 items join keys ljust lower lstrip partition pop remove replace reverse rfind rjust rpartition rsplit rstrip
                 setdefault split splitlines startswith strip update upper values zfill bit_length removeprefix removesuffix
                 add discard""".split())
JUDGED = set("stands paper is_paper reason is_reason".split())
OWN_METHODS = {"Net": set("tie untie thirds far_pair can_turn turn cut turn_signs covers triangles".split()),
               "Rests": set("lie dots_near steps_from coming".split()),
               "Stand": JUDGED, "Fewest": JUDGED, "Nearest": JUDGED, "Sure": JUDGED, "Many": JUDGED,
               "Board": set("state answer change".split()),
               "Desk": set("say field cut first held undo redo twin __eq__".split())}
BARRED = {"register", "mro", "elements", "open", "input", "law", "version_info", "with_traceback", "add_note"}
STATEMENTS = (ast.FunctionDef, ast.ClassDef, ast.Assign, ast.AugAssign, ast.Return, ast.If, ast.While, ast.For, ast.Break,
              ast.Continue, ast.Pass, ast.Raise, ast.Assert, ast.Delete, ast.Expr, ast.Try, ast.ImportFrom)


def tree_of(path):
    return ast.parse(path.read_text(encoding="ascii"))


def functions_of(tree):
    return [node for node in ast.walk(tree) if isinstance(node, ast.FunctionDef)]


def parameters_of(function):
    own = function.args
    return [arg.arg for arg in own.posonlyargs + own.args + own.kwonlyargs + [arg for arg in (own.vararg, own.kwarg) if arg]]


def names_bound_in(function):
    """The parameters and local variables."""
    stored = [node.id for node in ast.walk(function) if isinstance(node, ast.Name) and not isinstance(node.ctx, ast.Load)]
    return set(stored + parameters_of(function))


class Language(unittest.TestCase):
    def test_files(self):
        for path in PACKAGE.rglob("*"):
            if "__pycache__" not in path.parts:
                self.assertTrue(path.is_dir() or path.suffix == ".py", path)
        self.assertIn(PACKAGE / "__init__.py", FILES)
        for path in FILES:
            text = path.read_text(encoding="ascii")
            self.assertNotIn("\t", text)
            self.assertLessEqual(len(text.splitlines()), 399, path)
            self.assertLessEqual(max(len(line) for line in text.splitlines()), 120, path)

    def test_functions_are_small(self):
        for path in FILES:
            for function in functions_of(tree_of(path)):
                self.assertLessEqual(function.end_lineno - function.lineno + 1, 40, (path, function.name))
                self.assertEqual(function.decorator_list, [], (path, function.name))

    def test_imports(self):
        uses = {}
        for path in FILES:
            uses[path.stem] = set()
            for node in ast.walk(tree_of(path)):
                self.assertNotIsInstance(node, ast.Import, path)
                if isinstance(node, ast.ImportFrom):
                    self.assertTrue(all(name.asname is None for name in node.names), path)
                    self.check_import(node, uses[path.stem])
        while uses:
            free = [name for name in uses if not uses[name] & set(uses)]
            self.assertTrue(free, "files that import from each other")
            uses = {name: uses[name] for name in uses if name not in free}

    def check_import(self, node, used):
        names = {name.name for name in node.names}
        if node.module in LIBRARY:
            self.assertLessEqual(names, LIBRARY[node.module])
        else:
            package, stem = node.module.split(".")
            self.assertEqual((package, node.level), ("middledots", 0))
            used.add(stem)
            own = tree_of(PACKAGE / (stem + ".py")).body
            defined = {part.name for part in own if isinstance(part, (ast.FunctionDef, ast.ClassDef))}
            defined |= {part.targets[0].id for part in own if isinstance(part, ast.Assign)}
            self.assertLessEqual(names, defined)

    def test_module_level(self):
        for path in FILES:
            bound = []
            for node in tree_of(path).body:
                self.assertIsInstance(node, (ast.Expr, ast.ImportFrom, ast.FunctionDef, ast.ClassDef, ast.Assign), path)
                if isinstance(node, ast.Expr):
                    self.assertIsInstance(node.value.value, str)
                if isinstance(node, ast.Assign):
                    self.check_value(node.value, bound, path)
                    bound += [target.id for target in node.targets]
                if isinstance(node, ast.ImportFrom):
                    bound += [name.name for name in node.names]
                if isinstance(node, (ast.FunctionDef, ast.ClassDef)):
                    bound.append(node.name)
            self.assertEqual(len(bound), len(set(bound)), path)
            self.assertFalse(set(bound) & set(dir(builtins)), path)

    def check_value(self, value, bound, path):
        """A plain value, or a table of functions that stand above it."""
        if isinstance(value, ast.Dict) and any(isinstance(own, ast.Name) for own in value.values):
            self.assertTrue(all(isinstance(own, ast.Name) and own.id in bound for own in value.values), path)
        else:
            ast.literal_eval(value)

    def test_names(self):
        for path in FILES:
            tree = tree_of(path)
            taken = {name.name for node in tree.body if isinstance(node, ast.ImportFrom) for name in node.names}
            taken |= {node.name for node in tree.body if isinstance(node, ast.ClassDef)} | set(dir(builtins)) | BARRED
            for function in functions_of(tree):
                self.assertFalse(names_bound_in(function) & taken, (path, function.name))

    def test_unused_names(self):
        for path in FILES:
            tree = tree_of(path)
            read = {node.id for node in ast.walk(tree) if isinstance(node, ast.Name)}
            imported = {name.name for node in tree.body if isinstance(node, ast.ImportFrom) for name in node.names}
            self.assertFalse(imported - read, path)

    def test_statements_and_expressions(self):
        for path in FILES:
            for node in ast.walk(tree_of(path)):
                where = (path, getattr(node, "lineno", 0))
                if isinstance(node, ast.stmt):
                    self.assertIsInstance(node, STATEMENTS, where)
                if isinstance(node, ast.Constant):
                    self.assertNotIsInstance(node.value, (float, complex), where)
                self.assertNotIsInstance(node, (ast.Div, ast.GeneratorExp, ast.Yield, ast.YieldFrom, ast.Await), where)

    def test_builtins_and_methods(self):
        for path in FILES:
            tree = tree_of(path)
            for node in ast.walk(tree):
                if isinstance(node, ast.Name) and node.id in dir(builtins):
                    self.assertIn(node.id, BUILTINS, (path, node.lineno))
                if isinstance(node, ast.Call) and isinstance(node.func, ast.Attribute):
                    self.assertIn(node.func.attr, METHODS.union(*OWN_METHODS.values()), (path, node.lineno))

    def test_methods_and_attributes_of_classes(self):
        found = {}
        for path in FILES:
            for node in tree_of(path).body:
                if isinstance(node, ast.ClassDef) and path.stem != "errors":
                    parts = [part for part in node.body if isinstance(part, ast.FunctionDef)]
                    names = [part.name for part in parts]
                    self.assertTrue(all(ast.get_docstring(part) or part.name == "__init__" for part in parts), node.name)
                    self.assertEqual(len(names), len(set(names)), node.name)
                    kept = {part.attr for part in ast.walk(node) if isinstance(part, ast.Attribute)
                            and isinstance(part.ctx, ast.Store)}
                    self.assertFalse(kept & (set(names) | METHODS | {"sort", "args", "encode", "decode", "format"}), node.name)
                    self.assertEqual(kept & BARRED, set())
                    found[node.name] = set(names) - {"__init__"}
        self.assertEqual(found, OWN_METHODS)

    def test_everything_is_told_by_a_docstring(self):
        for path in FILES:
            tree = tree_of(path)
            self.assertTrue(ast.get_docstring(tree), path)
            for node in tree.body:
                if isinstance(node, (ast.FunctionDef, ast.ClassDef)):
                    self.assertTrue(ast.get_docstring(node), (path, node.name))


if __name__ == "__main__":
    unittest.main()
