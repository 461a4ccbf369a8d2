"""Every example of the document, section by section: its value, or its error with what the error keeps."""

import doctest
import importlib
import pathlib
import unittest

from tests.helpers import SECTIONS, told

FOLDER = pathlib.Path(__file__).parent / "examples"
ERRORS = vars(importlib.import_module("middledots.errors"))


def rows_of(path):
    """The pairs (row, what it must tell); None where nothing is told."""
    rows = []
    for line in path.read_text(encoding="ascii").splitlines():
        if line.startswith(">>> "):
            rows.append((line[4:], None))
        else:
            rows[-1] = (rows[-1][0], line)
    return rows


def outcome(row, names):
    """The value of row, or the error that it raises."""
    try:
        return ("value", eval(row, names))
    except Exception as error:
        return ("error", error)


class Examples(unittest.TestCase):
    def check_row(self, row, wanted, names):
        if wanted is None:
            exec(row, names)
        elif wanted.startswith("raises "):
            error = eval(wanted.removeprefix("raises "), dict(ERRORS))
            way, found = outcome(row, names)
            self.assertEqual((way, type(found), vars(found)), ("error", type(error), vars(error)))
        else:
            way, found = outcome(row, names)
            self.assertEqual((way, told(found)), ("value", told(eval(wanted))))

    def test_all(self):
        names = {}
        done = 0
        for path in sorted(FOLDER.glob("section_*.txt")):
            module = importlib.import_module("middledots." + SECTIONS[path.stem])
            names.update({name: vars(module)[name] for name in vars(module) if not name.startswith("_")})
            for row, wanted in rows_of(path):
                with self.subTest(section=path.stem, row=row):
                    self.check_row(row, wanted, names)
                    done += 1
        self.assertGreater(done, 0)

    def test_those_of_the_readme(self):
        names = {}
        examples = doctest.DocTestParser().get_examples((FOLDER.parent.parent / "README.md").read_text(encoding="ascii"))
        self.assertGreater(len(examples), 5)
        for example in examples:
            with self.subTest(row=example.source):
                self.check_row(example.source.strip(), example.want.strip() or None, names)

    def test_every_section_has_its_examples(self):
        self.assertEqual({path.stem for path in FOLDER.glob("section_*.txt")}, set(SECTIONS))


if __name__ == "__main__":
    unittest.main()
