"""Every example of the document, as it stands there: one file for each section in the folder examples."""

import doctest
import pathlib
import unittest

from boundedlevels import (
    account, board, desk, errors, flows, heaps, late, leasts, needs, plain, readings, rounds, texts, units, ways, woven,
)

FOLDER = pathlib.Path(__file__).parent / "examples"
MODULES = (errors, plain, ways, leasts, late, units, rounds, woven, heaps, flows, readings, needs, account, texts,
           board, desk)


def interface():
    names = {}
    for module in MODULES:
        names.update({name: value for name, value in vars(module).items() if not name.startswith("_")})
    return names


def examples_of(text):
    """Pairs of a statement and the line that the document tells of it, None for none."""
    pairs = []
    for line in text.splitlines():
        if line.startswith(">>> "):
            pairs.append([line[4:], None])
        elif line:
            pairs[-1][1] = line
    return pairs


def told(statement, names):
    """What a statement tells, written as in the document."""
    try:
        code = compile(statement, "example", "eval")
    except SyntaxError:
        exec(compile(statement, "example", "exec"), names)
        return None
    try:
        return repr(eval(code, names))
    except errors.LevelError as error:
        values = ", ".join(f"{name}={value!r}" for name, value in vars(error).items())
        return f"raises {error.__class__.__name__}({values})"


class Examples(unittest.TestCase):
    def test_each_section(self):
        counts = {}
        for path in sorted(FOLDER.glob("*.txt")):
            names = interface()
            pairs = examples_of(path.read_text(encoding="ascii"))
            counts[path.stem] = len(pairs)
            for statement, line in pairs:
                with self.subTest(section=path.stem, statement=statement):
                    self.assertEqual(told(statement, names), line)
        self.assertEqual(counts, {"section3": 12, "section4": 9, "section5": 14, "section6": 7, "section7": 8,
                                  "section8": 8, "section9": 9, "section10": 8, "section11": 9, "section12": 7,
                                  "section13": 8, "section14": 7, "section15": 12, "section16": 6})

    def test_readme(self):
        failed, tried = doctest.testfile(str(FOLDER.parent.parent / "README.md"), module_relative=False)
        self.assertEqual(failed, 0)
        self.assertGreater(tried, 5)


if __name__ == "__main__":
    unittest.main()
