"""The form of the package's files: the rules of the language that can be read off them."""

import ast
import builtins
import os
import unittest

FOLDER = os.path.join(os.path.dirname(os.path.dirname(os.path.abspath(__file__))), "frameseams")
BUILTINS = """len range enumerate zip min max sum abs sorted reversed int str bool list tuple dict set isinstance ord
repr any all divmod pow super property ValueError TypeError KeyError IndexError""".split()
LIBRARY = ["math", "heapq", "itertools", "collections"]
METHODS = """append clear copy count endswith extend find get index insert isalnum isalpha isdigit islower isspace
isupper items join keys ljust lower lstrip partition pop remove replace reverse rfind rjust rpartition rsplit rstrip
setdefault split splitlines startswith strip update upper values zfill bit_length __init__""".split()
MODIFIERS = "append clear extend insert pop remove reverse setdefault sort update add discard".split()


def files():
    return sorted(name for name in os.listdir(FOLDER) if name != "__pycache__")


def text_of(name):
    with open(os.path.join(FOLDER, name), encoding="ascii") as file:
        return file.read()


def imports_of(name):
    return [node for node in ast.parse(text_of(name)).body if isinstance(node, (ast.Import, ast.ImportFrom))]


def locals_of(function):
    """The names of the parameters and variables of a function, those of comprehensions and lambdas included."""
    names = [node.arg for node in ast.walk(function) if isinstance(node, ast.arg)]
    for node in ast.walk(function):
        if isinstance(node, ast.Name) and isinstance(node.ctx, ast.Store):
            names.append(node.id)
    return names


def classes():
    """All classes of the package."""
    nodes = [node for name in files() for node in ast.parse(text_of(name)).body]
    return [node for node in nodes if isinstance(node, ast.ClassDef)]


def methods_of(owner):
    return [node for node in owner.body if isinstance(node, ast.FunctionDef)]


def attributes_of(owner):
    """The names of the attributes that the methods of a class assign."""
    found = [node for node in ast.walk(owner) if isinstance(node, ast.Attribute)]
    return {node.attr for node in found if isinstance(node.ctx, ast.Store)}


def names_made(tree):
    """The names that the module level of a file binds, without its imports."""
    made = []
    for node in tree.body:
        if isinstance(node, (ast.FunctionDef, ast.ClassDef)):
            made.append(node.name)
        if isinstance(node, ast.Assign):
            made.extend(target.id for target in node.targets)
    return made


def runnable():
    """For each file the functions that its names call, and all methods of the package by their names."""
    own = {name: {} for name in files()}
    methods = {}
    for name in files():
        for node in ast.parse(text_of(name)).body:
            if isinstance(node, ast.FunctionDef):
                own[name][node.name] = (name, node)
            if isinstance(node, ast.ClassDef):
                for method in methods_of(node):
                    methods.setdefault(method.name, []).append((name, method))
    called = {name: dict(own[name]) for name in own}
    for name in files():
        for node in imports_of(name):
            from_file = node.module.partition(".")[2] + ".py"
            called[name].update({one.name: own[from_file][one.name] for one in node.names
                                 if one.name in own.get(from_file, {})})
    return called, methods


def run_by(roots):
    """The functions and methods of roots, and all that they call, directly or through what they call."""
    called, methods = runnable()
    found = list(roots)
    for file, function in found:
        for node in ast.walk(function):
            told = []
            if isinstance(node, ast.Call) and isinstance(node.func, ast.Name):
                told = [called[file][node.func.id]] if node.func.id in called[file] else []
            if isinstance(node, ast.Call) and isinstance(node.func, ast.Attribute):
                told = methods.get(node.func.attr, [])
            found.extend(one for one in told if one not in found)
    return found


def is_made(value):
    """Whether an assigned value is a list or dict that did not exist before."""
    if isinstance(value, ast.BinOp) and isinstance(value.op, ast.Mult):
        return isinstance(value.left, ast.List)
    if isinstance(value, ast.Call) and isinstance(value.func, ast.Name):
        return value.func.id in ["list", "dict", "sorted"]
    if isinstance(value, ast.Subscript):
        return isinstance(value.slice, ast.Slice)
    return isinstance(value, (ast.List, ast.Dict, ast.ListComp, ast.DictComp))


def made_by(function):
    """The variables of a function that are assigned nothing but lists and dicts that it makes."""
    assigned = [node for node in ast.walk(function) if isinstance(node, ast.Assign) and len(node.targets) == 1]
    fresh = [node.targets[0] for node in assigned if is_made(node.value)]
    # What a parameter, a loop or another assignment binds, too, may be somebody else's.
    others = {node.arg for node in ast.walk(function) if isinstance(node, ast.arg)}
    for node in ast.walk(function):
        if isinstance(node, ast.Name) and isinstance(node.ctx, ast.Store) and node not in fresh:
            others.add(node.id)
    return {node.id for node in fresh if isinstance(node, ast.Name)} - others


def changes_in(function, own):
    """The rows of a function in which it may change what it did not make, or call what it was handed or holds."""
    made = made_by(function)
    rows = []
    for node in ast.walk(function):
        if isinstance(node, (ast.Global, ast.Nonlocal, ast.Delete, ast.Yield, ast.YieldFrom, ast.Lambda)):
            rows.append(node.lineno)
        if isinstance(node, ast.AugAssign):
            literal = isinstance(node.value, ast.Constant) and isinstance(node.value.value, int)
            if not literal or not isinstance(node.target, ast.Name):
                rows.append(node.lineno)
        if isinstance(node, ast.Attribute) and isinstance(node.ctx, ast.Store):
            rows.append(node.lineno)
        if isinstance(node, ast.Subscript) and isinstance(node.ctx, ast.Store):
            if not isinstance(node.value, ast.Name) or node.value.id not in made:
                rows.append(node.lineno)
        if isinstance(node, ast.Call) and isinstance(node.func, ast.Attribute) and node.func.attr in MODIFIERS:
            if not isinstance(node.func.value, ast.Name) or node.func.value.id not in made:
                rows.append(node.lineno)
        if isinstance(node, ast.Call) and isinstance(node.func, ast.Name):
            if node.func.id in locals_of(function) or node.func.id not in own + BUILTINS:
                rows.append(node.lineno)
        if isinstance(node, ast.Call) and not isinstance(node.func, (ast.Name, ast.Attribute)):
            rows.append(node.lineno)
    return rows


class Form(unittest.TestCase):
    def test_nothing_but_python_files(self):
        self.assertIn("__init__.py", files())
        for name in files():
            self.assertTrue(name.endswith(".py") and name == name.lower(), name)

    def test_sizes_and_characters(self):
        for name in files():
            lines = text_of(name).split("\n")
            self.assertLessEqual(len(lines), 400, name)
            for line in lines:
                self.assertLessEqual(len(line), 120, name)
                self.assertTrue(all(" " <= sign <= "~" for sign in line), name)
            for node in ast.walk(ast.parse(text_of(name))):
                if isinstance(node, ast.FunctionDef):
                    self.assertLessEqual(node.end_lineno - node.lineno + 1, 40, node.name)

    def test_imports_come_from_the_defining_file(self):
        for name in files():
            for node in imports_of(name):
                self.assertIsInstance(node, ast.ImportFrom, name)
                if node.module in LIBRARY:
                    continue
                package, _, file = node.module.partition(".")
                self.assertEqual((package, node.level), ("frameseams", 0))
                made = names_made(ast.parse(text_of(file + ".py")))
                for one in node.names:
                    self.assertIn(one.name, made)

    def test_no_two_files_import_from_each_other(self):
        needs = {name: [node.module.partition(".")[2] + ".py" for node in imports_of(name)] for name in files()}
        self.assertEqual(needs["__init__.py"], [])
        done = []
        while len(done) < len(needs):
            waiting = [name for name in needs if name not in done]
            ready = [name for name in waiting if not any(one in waiting for one in needs[name])]
            self.assertTrue(ready, "a circle of imports")
            done.extend(ready)

    def test_names_of_variables(self):
        for name in files():
            tree = ast.parse(text_of(name))
            barred = {one.name for node in imports_of(name) for one in node.names}
            barred |= {node.name for node in tree.body if isinstance(node, ast.ClassDef)}
            barred |= {*dir(builtins), "elements", "register", "law", "mro"}
            for node in ast.walk(tree):
                if isinstance(node, ast.FunctionDef):
                    self.assertFalse(barred & {*locals_of(node)}, (name, node.name))

    def test_methods_strings_and_powers(self):
        own = [method.name for owner in classes() for method in methods_of(owner)]
        for name in files():
            tree = ast.parse(text_of(name))
            for node in ast.walk(tree):
                if isinstance(node, ast.Call) and isinstance(node.func, ast.Attribute):
                    self.assertIn(node.func.attr, METHODS + own, name)
                if isinstance(node, ast.Constant) and isinstance(node.value, str):
                    self.assertNotIn("%", node.value, name)
                if isinstance(node, ast.BinOp) and isinstance(node.op, ast.Pow):
                    self.assertIsInstance(node.right, ast.Constant, name)

    def test_classes(self):
        for owner in classes():
            names = [method.name for method in methods_of(owner)]
            self.assertEqual(len(names), len({*names}), owner.name)
            self.assertFalse({*names} & attributes_of(owner), owner.name)
            for method in methods_of(owner):
                if method.name.startswith("__"):
                    self.assertIn(method.name, ["__init__", "__eq__", "__len__"])
                self.assertLessEqual(len(method.decorator_list), 1)
                for one in method.decorator_list:
                    self.assertEqual(one.id, "property")
        properties = {method.name for owner in classes() for method in methods_of(owner) if method.decorator_list}
        plain = {method.name for owner in classes() for method in methods_of(owner) if not method.decorator_list}
        self.assertFalse(properties & (plain | {*METHODS}))
        # A class that tells its length or compares bars sorting on the spot, and a method add bars sets that grow.
        for name in files():
            for node in ast.walk(ast.parse(text_of(name))):
                if isinstance(node, ast.Call) and isinstance(node.func, ast.Attribute):
                    self.assertNotIn(node.func.attr, ["sort", "discard"], name)
                self.assertNotIsInstance(node, (ast.Set, ast.SetComp), name)

    def test_what_properties_run_changes_nothing(self):
        # The same is asked of comparing and of telling the length, as there are properties.
        quiet = ["__eq__", "__len__"]
        called, methods = runnable()
        roots = [one for some in methods.values() for one in some if one[1].decorator_list or one[1].name in quiet]
        names = {function.name for _, function in roots}
        self.assertEqual(names, {*quiet, "level", "edges", "kinds", "seen", "ready", "pending"})
        reached = run_by(roots)
        self.assertIn("laid", [function.name for _, function in reached])
        for file, function in reached:
            self.assertEqual(changes_in(function, list(called[file])), [], (file, function.name))

    def test_decorators_stand_over_methods_alone(self):
        for name in files():
            tree = ast.parse(text_of(name))
            for node in tree.body:
                if isinstance(node, (ast.FunctionDef, ast.ClassDef)):
                    self.assertEqual(node.decorator_list, [], name)
            for node in ast.walk(tree):
                if isinstance(node, ast.FunctionDef):
                    inner = [one for one in ast.walk(node) if isinstance(one, (ast.FunctionDef, ast.ClassDef))]
                    self.assertEqual(inner, [node], name)

    def test_errors_are_made_on_the_spot(self):
        for name in files():
            for node in ast.walk(ast.parse(text_of(name))):
                if isinstance(node, ast.Raise):
                    self.assertIsInstance(node.exc, ast.Call, name)
                    self.assertTrue(node.exc.func.id[0].isupper() and node.cause is None, name)
                if isinstance(node, ast.ExceptHandler):
                    self.assertIn(node.type.id, [owner.name for owner in classes()], name)

    def test_barred_words(self):
        for name in files():
            for node in ast.walk(ast.parse(text_of(name))):
                word = getattr(node, "id", getattr(node, "attr", None))
                self.assertNotIn(word, ["type", "__class__", "__name__", "__dict__", "args", "format", "chr"], name)

    def test_builtins_and_expressions(self):
        barred = (ast.GeneratorExp, ast.Div, ast.AsyncFunctionDef, ast.Global)
        for name in files():
            tree = ast.parse(text_of(name))
            for node in ast.walk(tree):
                self.assertNotIsInstance(node, barred, name)
                if isinstance(node, ast.Constant):
                    self.assertNotIsInstance(node.value, (float, complex), name)
                if isinstance(node, ast.Name) and hasattr(builtins, node.id):
                    self.assertIn(node.id, BUILTINS, name)
                if isinstance(node, ast.arg):
                    self.assertNotIn(node.arg, BUILTINS, name)


if __name__ == "__main__":
    unittest.main()
