"""The rules of the language that a look at the files of the package can judge."""

import ast
import builtins
import os
import unittest

ROOT = os.path.dirname(os.path.dirname(os.path.abspath(__file__)))
PACKAGE = os.path.join(ROOT, "cellsenough")
BUILTINS = (
    "len range enumerate zip min max sum abs sorted reversed int str bool list tuple dict set frozenset isinstance ord "
    "repr any all divmod iter property Exception ValueError TypeError KeyError IndexError LookupError ZeroDivisionError "
    "ArithmeticError OverflowError RuntimeError NotImplementedError NotImplemented").split()
METHODS = (
    "append clear copy count endswith extend find get index insert isalnum isalpha isdigit islower isspace isupper items "
    "join keys ljust lower lstrip partition pop remove replace reverse rfind rjust rpartition rsplit rstrip setdefault "
    "split splitlines startswith strip update upper values zfill bit_length add discard sort isascii").split()
DOUBLE = "__init__ __eq__ __repr__ __str__ __len__ __contains__ __iter__ __bool__ __call__ __getitem__ __add__".split()
CHANGING = "append clear extend insert pop remove reverse setdefault sort update add discard".split()
NEVER = "mro elements open input law register id help vars dir compile globals locals exit quit copyright".split()


def files():
    for folder, _, names in os.walk(PACKAGE):
        if os.path.basename(folder) != "__pycache__":
            for name in sorted(names):
                yield os.path.join(folder, name)


def text_of(path):
    with open(path, encoding="utf-8", newline="") as file:
        return file.read()


def bound_in(tree):
    """All names that a file binds anywhere, builtins excluded."""
    names = {node.id for node in ast.walk(tree) if isinstance(node, ast.Name) and isinstance(node.ctx, ast.Store)}
    names |= {node.arg for node in ast.walk(tree) if isinstance(node, ast.arg)}
    names |= {node.name for node in ast.walk(tree) if isinstance(node, ast.ExceptHandler) and node.name}
    names |= {node.name for node in ast.walk(tree) if isinstance(node, (ast.FunctionDef, ast.ClassDef))}
    for node in ast.walk(tree):
        if isinstance(node, ast.ImportFrom):
            names |= {alias.name for alias in node.names}
    return names


def names_walked(node):
    """The names that a loop goes over, also through enumerate, zip, reversed and the views of dicts."""
    if isinstance(node, ast.Name):
        return {node.id}
    if isinstance(node, ast.Call) and isinstance(node.func, ast.Name) and node.func.id in ("enumerate", "zip", "reversed"):
        return {name for part in node.args for name in names_walked(part)}
    if isinstance(node, ast.Call) and isinstance(node.func, ast.Attribute) and node.func.attr in ("items", "keys", "values"):
        return names_walked(node.func.value)
    return set()


def names_alike(function, names):
    """The names, and those that the function gives one of their lists, or a list of which it gives them."""
    pairs = [(node.targets[0].id, node.value.id) for node in ast.walk(function) if isinstance(node, ast.Assign)
             and isinstance(node.targets[0], ast.Name) and isinstance(node.value, ast.Name)]
    for _ in pairs:
        names = names | {one for pair in pairs for one in pair if names & set(pair)}
    return names


def names_changed(loop):
    """The names whose lists or dicts are changed in the rows of a loop."""
    names = set()
    for node in [part for row in loop.body for part in ast.walk(row)]:
        if isinstance(node, ast.Call) and isinstance(node.func, ast.Attribute) and isinstance(node.func.value, ast.Name):
            names |= {node.func.value.id} if node.func.attr in CHANGING else set()
        if isinstance(node, ast.Subscript) and not isinstance(node.ctx, ast.Load) and isinstance(node.value, ast.Name):
            names.add(node.value.id)
        if isinstance(node, ast.AugAssign) and isinstance(node.target, ast.Name):
            names.add(node.target.id)
    return names


def is_simple(node):
    """Whether this can stand in a call behind a star."""
    if isinstance(node, (ast.List, ast.Tuple)):
        return all(is_simple(part) for part in node.elts)
    if isinstance(node, ast.Starred):
        return is_simple(node.value)
    return isinstance(node.value if isinstance(node, ast.Attribute) else node, (ast.Name, ast.Constant))


class Language(unittest.TestCase):
    def each(self):
        return [(path, ast.parse(text_of(path))) for path in files()]

    def test_files(self):
        for path in files():
            self.assertTrue(path.endswith(".py"), path)
            self.assertTrue(os.path.isfile(os.path.join(os.path.dirname(path), "__init__.py")), path)
        self.assertLessEqual(len(list(files())), 100)

    def test_sizes_and_characters(self):
        for path, tree in self.each():
            text = text_of(path)
            self.assertTrue(all(letter == "\n" or " " <= letter <= "~" for letter in text))
            lines = text.split("\n")
            self.assertLessEqual(len(lines), 399)
            self.assertLessEqual(max(map(len, lines)), 120)
            for node in ast.walk(tree):
                if isinstance(node, ast.FunctionDef):
                    self.assertLessEqual(node.end_lineno - node.lineno + 1, 40, node.name)

    def test_imports_name_the_defining_file(self):
        for path, tree in self.each():
            for node in ast.walk(tree):
                self.assertNotIsInstance(node, ast.Import)
                if isinstance(node, ast.ImportFrom):
                    self.assertEqual(node.level, 0)
                    self.assertEqual(node.module.split(".")[0], "cellsenough")
                    target = ast.parse(text_of(os.path.join(ROOT, *node.module.split(".")) + ".py"))
                    made = {part.name for part in target.body if isinstance(part, (ast.FunctionDef, ast.ClassDef))}
                    made |= {part.targets[0].id for part in target.body if isinstance(part, ast.Assign)}
                    for alias in node.names:
                        self.assertIsNone(alias.asname)
                        self.assertIn(alias.name, made)

    def test_module_level(self):
        allowed = (ast.FunctionDef, ast.ClassDef, ast.Assign, ast.ImportFrom)
        for path, tree in self.each():
            self.assertIsInstance(tree.body[0].value.value, str)
            for node in tree.body[1:]:
                self.assertIsInstance(node, allowed)

    def test_names(self):
        for path, tree in self.each():
            bound = bound_in(tree)
            self.assertEqual([name for name in bound if name in BUILTINS or name in NEVER], [])
            for node in ast.walk(tree):
                if isinstance(node, ast.Name) and isinstance(node.ctx, ast.Load):
                    self.assertTrue(node.id in bound or node.id in BUILTINS, node.id)
                if isinstance(node, ast.FunctionDef) and node.name.startswith("__"):
                    self.assertIn(node.name, DOUBLE)
                if isinstance(node, ast.FunctionDef):
                    self.assertTrue(all(part.id == "property" for part in node.decorator_list), node.name)

    def test_no_name_of_a_builtin_an_import_or_a_class_is_given_another_meaning(self):
        for path, tree in self.each():
            taken = {alias.name for node in tree.body if isinstance(node, ast.ImportFrom) for alias in node.names}
            taken |= {node.name for node in tree.body if isinstance(node, ast.ClassDef)}
            self.assertEqual(sorted(bound_in(tree) & set(dir(builtins))), [])
            for node in ast.walk(tree):
                if isinstance(node, ast.arg):
                    self.assertNotIn(node.arg, taken, path)
                if isinstance(node, ast.Name) and isinstance(node.ctx, ast.Store):
                    self.assertNotIn(node.id, taken, path)

    def test_names_of_properties_mean_nothing_else(self):
        properties, methods, stored = set(), set(), set()
        for path, tree in self.each():
            for node in ast.walk(tree):
                if isinstance(node, ast.ClassDef):
                    for part in node.body:
                        if isinstance(part, ast.FunctionDef):
                            (properties if part.decorator_list else methods).add(part.name)
                if isinstance(node, ast.Attribute) and isinstance(node.ctx, ast.Store):
                    stored.add(node.attr)
        self.assertEqual([sorted(properties & methods), sorted(properties & stored), sorted(methods & stored)], [[], [], []])

    def test_names_of_classes_begin_with_a_letter(self):
        for path, tree in self.each():
            for node in ast.walk(tree):
                if isinstance(node, ast.ClassDef):
                    self.assertTrue(node.name[0].isalpha(), f"{path}: {node.name}")

    def test_what_a_loop_walks_is_not_changed_in_it(self):
        for path, tree in self.each():
            for function in [node for node in ast.walk(tree) if isinstance(node, ast.FunctionDef)]:
                for loop in [node for node in ast.walk(function) if isinstance(node, ast.For)]:
                    walked = names_alike(function, names_walked(loop.iter))
                    self.assertEqual(sorted(walked & names_changed(loop)), [], f"{path}: {function.name}")

    def test_the_look_at_loops_finds_what_it_should(self):
        told = "def f(level):\n    while level:\n        below = []\n        for part in CALL:\n            {}\n        level = below\n"
        for walked in ("level", "enumerate(level)", "reversed(level)", "zip(level, level)"):
            for row, is_wrong in (("below.extend(part)", True), ("level.append(1)", True), ("below[0] = part", True),
                                  ("del level[0]", True), ("below += part", True), ("other.append(1)", False)):
                function = ast.parse(told.replace("CALL", walked).format(row)).body[0]
                loop = next(node for node in ast.walk(function) if isinstance(node, ast.For))
                self.assertIs(bool(names_alike(function, names_walked(loop.iter)) & names_changed(loop)), is_wrong)

    def test_what_stands_behind_a_star(self):
        for path, tree in self.each():
            for node in ast.walk(tree):
                args = node.args if isinstance(node, ast.Call) else []
                starred = [at for at, part in enumerate(args) if isinstance(part, ast.Starred)]
                for part in args[starred[0]:] if starred else []:
                    self.assertTrue(is_simple(part), f"{path}: {ast.unparse(node)}")

    def test_no_two_files_import_from_each_other(self):
        imported = {}
        for path, tree in self.each():
            name = os.path.relpath(path, ROOT)[:-3].replace(os.sep, ".")
            imported[name] = {node.module for node in tree.body if isinstance(node, ast.ImportFrom)}
        while imported:
            ready = [name for name in imported if not imported[name] & set(imported)]
            self.assertNotEqual(ready, [], imported)
            for name in ready:
                del imported[name]

    def test_only_own_errors_are_caught(self):
        own = {node.name for node in ast.parse(text_of(os.path.join(PACKAGE, "errors.py"))).body if isinstance(node, ast.ClassDef)}
        for path, tree in self.each():
            for node in ast.walk(tree):
                if isinstance(node, ast.Try):
                    self.assertEqual(node.finalbody, [])
                if isinstance(node, ast.ExceptHandler):
                    named = node.type.elts if isinstance(node.type, ast.Tuple) else [node.type]
                    self.assertLessEqual({part.id for part in named}, own)

    def test_methods(self):
        own = set()
        for path in files():
            for node in ast.walk(ast.parse(text_of(path))):
                if isinstance(node, ast.FunctionDef):
                    own.add(node.name)
        for path, tree in self.each():
            for node in ast.walk(tree):
                if isinstance(node, ast.Call) and isinstance(node.func, ast.Attribute):
                    self.assertTrue(node.func.attr in own or node.func.attr in METHODS, node.func.attr)

    def test_statements_and_expressions(self):
        barred = (ast.GeneratorExp, ast.AsyncFunctionDef, ast.Await, ast.Global, ast.Div)
        for path, tree in self.each():
            for node in ast.walk(tree):
                self.assertNotIsInstance(node, barred)
                if isinstance(node, ast.Constant):
                    self.assertNotIsInstance(node.value, (float, complex))
                if isinstance(node, ast.Compare) and any(isinstance(op, (ast.Is, ast.IsNot)) for op in node.ops):
                    self.assertTrue(all(isinstance(part, ast.Constant) for part in node.comparators))
                if isinstance(node, ast.Constant) and isinstance(node.value, str):
                    self.assertNotIn("%", node.value)
                if isinstance(node, ast.For):
                    self.assertNotIsInstance(node.iter, (ast.Set, ast.SetComp))


if __name__ == "__main__":
    unittest.main()
