"""README.md: how to use each file."""

import inspect
import os
import re
import unittest

from frameseams import (
    blocks, counts, divisors, errors, frames, lists, losses, marks, partners, rests, session, streams, texts, windows,
)

ROOT = os.path.dirname(os.path.dirname(os.path.abspath(__file__)))
MODULES = [
    blocks, counts, divisors, errors, frames, lists, losses, marks, partners, rests, session, streams, texts, windows,
]


def readme():
    with open(os.path.join(ROOT, "README.md"), encoding="ascii") as file:
        return file.read()


class Readme(unittest.TestCase):
    def test_every_file_is_named(self):
        for name in os.listdir(os.path.join(ROOT, "frameseams")):
            if name.endswith(".py") and name != "__init__.py":
                self.assertIn(f"`frameseams/{name}`", readme())

    def test_every_name_stands_beside_its_file(self):
        helpers = ["need_even", "need_window", "is_edge", "is_kind", "is_number"]
        for module in MODULES:
            row = re.search(f"^. `frameseams/{module.__name__.split('.')[1]}.py`.*$", readme(), re.M).group()
            for name, thing in vars(module).items():
                own = getattr(thing, "__module__", "") == module.__name__ and not name.startswith("_")
                if own and module is not errors and name not in helpers:
                    self.assertIn(f"`{name}`", row)
                if own and inspect.isclass(thing) and module is not errors:
                    for method in vars(thing):
                        if not method.startswith("_"):
                            self.assertIn(f"`{method}`", row)
        self.assertIn("`SeamError`", readme())

    def test_examples(self):
        code = re.search("```python\n(.*?)```", readme(), re.S).group(1)
        known, told = {}, 0
        for line in code.split("\n"):
            source, sign, answer = line.partition("  # ")
            if not sign:
                exec(line, known)
                continue
            told += 1
            answer = answer.strip()
            if answer.startswith("raises "):
                self.check_error(source, known, answer)
            elif re.match("[a-z]+ = ", source):
                exec(source, known)
                self.assertEqual(repr(known[source.split()[0]]), answer)
            else:
                shown = repr(eval(source, known))
                self.assertTrue(re.match(re.escape(shown) + "($|[ ,:])", answer), (line, shown))
        self.assertGreater(told, 30)

    def check_error(self, source, known, answer):
        with self.assertRaises(errors.SeamError) as held:
            eval(source, known)
        self.assertEqual(type(held.exception).__name__, answer.split()[1].rstrip(":"))
        for field, number in re.findall(r"its (\w+) is (\d+)", answer):
            self.assertEqual(getattr(held.exception, field), int(number))


if __name__ == "__main__":
    unittest.main()
