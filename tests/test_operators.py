"""What operators, properties and the like may not do, also not through what they call."""

import ast
import os
import unittest

from test_language import CHANGING, ROOT, files, text_of

# These two can change their own object; all other double-underscore methods of the package change nothing.
FREE = ("__init__", "__call__")
NEW = (ast.List, ast.Dict, ast.ListComp, ast.DictComp)


def package():
    """A dict from the full names of the files of the package to what they hold."""
    return {os.path.relpath(path, ROOT)[:-3].replace(os.sep, "."): ast.parse(text_of(path)) for path in files()}


def functions_of(trees):
    """A dict from (file, class or None, name) to functions."""
    found = {}
    for file, tree in trees.items():
        for node in tree.body:
            for part in node.body if isinstance(node, ast.ClassDef) else [node]:
                if isinstance(part, ast.FunctionDef):
                    found[file, node.name if part is not node else None, part.name] = part
    return found


def home_of(trees, file, name):
    """The file that defines what has this name in a file."""
    for node in trees[file].body:
        if isinstance(node, ast.ImportFrom) and name in [alias.name for alias in node.names]:
            return node.module
    return file


def named_by(trees, functions, place):
    """The functions that a function names, the beginnings of the objects that it makes, and methods that it can call."""
    file, of_class, _ = place
    for node in ast.walk(functions[place]):
        if isinstance(node, ast.Name):
            yield home_of(trees, file, node.id), None, node.id
        if isinstance(node, ast.Call) and isinstance(node.func, ast.Name):
            yield home_of(trees, file, node.func.id), node.func.id, "__init__"
        if isinstance(node, ast.Attribute):
            is_own = isinstance(node.value, ast.Name) and node.value.id == "self"
            for other in functions:
                if other[1] and other[2] == node.attr and (not is_own or other[:2] == (file, of_class)):
                    yield other


def reached_in(trees):
    """A dict from the places of all operators, properties and the like, and of what they call, to the functions."""
    functions = functions_of(trees)
    left = [place for place, function in functions.items()
            if function.decorator_list or (place[2].startswith("__") and place[2] not in FREE)]
    found = {}
    while left:
        place = left.pop()
        if place in functions and place not in found:
            found[place] = functions[place]
            left.extend(named_by(trees, functions, place))
    return found


def is_number(node):
    """Whether this surely is an integer."""
    if isinstance(node, ast.Call):
        return isinstance(node.func, ast.Name) and node.func.id in ("len", "int")
    return isinstance(node, ast.Constant) and type(node.value) is int


def is_given_only(function, name, is_right):
    """Whether this is a local variable to which all assignments, each by itself, give what is right."""
    given = [node.targets[0] for node in ast.walk(function)
             if isinstance(node, ast.Assign) and len(node.targets) == 1 and is_right(node.value)]
    given += [node.target for node in ast.walk(function) if isinstance(node, ast.AugAssign)]
    stored = [node for node in ast.walk(function)
              if isinstance(node, ast.Name) and node.id == name and isinstance(node.ctx, ast.Store)]
    is_parameter = name in [node.arg for node in ast.walk(function) if isinstance(node, ast.arg)]
    return not is_parameter and all(node in given for node in stored)


def wrong_sums(function):
    """Where a function has `+=` or the like at what is no local variable, or is not told to be a number."""
    found = []
    for node in [node for node in ast.walk(function) if isinstance(node, ast.AugAssign)]:
        is_literal = is_number(node.value) and isinstance(node.value, ast.Constant)
        is_right = isinstance(node.op, (ast.Add, ast.Sub, ast.FloorDiv, ast.Mod)) and isinstance(node.target, ast.Name)
        if not is_right or not (is_literal or is_given_only(function, node.target.id, is_number)):
            found.append(ast.unparse(node))
    return found


def wrong_changes(function):
    """Where a function changes something else than a list or dict that it made, or its own object in `__init__`."""
    changed = []
    for node in ast.walk(function):
        if isinstance(node, ast.Call) and isinstance(node.func, ast.Attribute) and node.func.attr in CHANGING:
            changed.append(node.func.value)
        if isinstance(node, ast.Subscript) and not isinstance(node.ctx, ast.Load):
            changed.append(node.value)
        if isinstance(node, ast.Attribute) and not isinstance(node.ctx, ast.Load):
            is_own = function.name == "__init__" and isinstance(node.value, ast.Name) and node.value.id == "self"
            changed.extend([] if is_own else [node])
    return [ast.unparse(node) for node in changed if not isinstance(node, ast.Name)
            or not is_given_only(function, node.id, lambda value: isinstance(value, NEW))]


def function_with(*rows):
    """A function with these rows, which has the parameters `self` and `rows`."""
    return ast.parse("def f(self, rows):\n" + "".join([f"    {row}\n" for row in rows])).body[0]


class Operators(unittest.TestCase):
    def test_no_sum_of_what_is_not_told_to_be_a_number(self):
        for place, function in reached_in(package()).items():
            self.assertEqual(wrong_sums(function), [], place)

    def test_nothing_is_changed(self):
        for place, function in reached_in(package()).items():
            self.assertEqual(wrong_changes(function), [], place)

    def test_what_is_looked_at(self):
        reached = reached_in(package())
        for place in (("cellsenough.code.program", "Program", "__add__"), ("cellsenough.code.program", "Program", "__init__"),
                      ("cellsenough.code.rows", None, "are_rows"), ("cellsenough.code.rows", None, "places_of"),
                      ("cellsenough.logic.shapes", None, "is_right"), ("cellsenough.desk.desk", "Desk", "__getitem__"),
                      ("cellsenough.solve.differing", None, "numbers_or_ring"), ("cellsenough.solve.rings", "System", "fitting")):
            self.assertIn(place, reached)
        self.assertNotIn(("cellsenough.decide.search", None, "decided"), reached)
        self.assertNotIn(("cellsenough.text.shell", "Shell", "__call__"), reached)

    def test_what_operators_call_is_found(self):
        first = ("from b import told\nclass C:\n    def __init__(self):\n        start()\n"
                 "    def __add__(self, other):\n        return told(C(), other.more())\n    def more(self):\n        pass\n"
                 "    def go(self):\n        away()\ndef start():\n    pass\ndef away():\n    pass\n")
        second = "def told(one, two):\n    return sorted(one, key=last)\ndef last(row):\n    pass\ndef away():\n    pass\n"
        reached = reached_in({"a": ast.parse(first), "b": ast.parse(second)})
        self.assertEqual(set(reached), {("a", "C", "__add__"), ("a", "C", "__init__"), ("a", None, "start"),
                                        ("a", "C", "more"), ("b", None, "told"), ("b", None, "last")})

    def test_the_look_at_sums_finds_what_it_should(self):
        for first, row, is_wrong in (
                ("many = 0", "many += len(rows)", False), ("many = len(rows)", "many += rows[0]", False),
                ("many = loops = 0", "many += len(rows)", True), ("many = loops = 0", "loops += rows[0]", True),
                ("many = loops = 0", "many += 1", False), ("many = loops = 0", "many = many + len(rows)", False),
                ("many, loops = 0, 0", "many += len(rows)", True), ("many = rows[0]", "many += len(rows)", True),
                ("many = rows", "many += [1]", True), ("pass", "rows += [1]", True), ("pass", "rows += rows", True),
                ("many = True", "many += len(rows)", True), ("many = 0", "many *= 2", True),
                ("many = 0", "many -= 1", False), ("pass", "self.many += 1", True), ("pass", "rows[0] += 1", True)):
            self.assertIs(bool(wrong_sums(function_with(first, row))), is_wrong, f"{first}; {row}")
        looped = function_with("many = 0", "for many in rows:", "    pass", "many += len(rows)")
        self.assertEqual(wrong_sums(looped), ["many += len(rows)"])

    def test_the_look_at_changes_finds_what_it_should(self):
        for first, row, is_wrong in (
                ("found = []", "found.append(1)", False), ("found = {}", "found[1] = 2", False),
                ("found = [row for row in rows]", "del found[0]", False), ("found = rows", "found.append(1)", True),
                ("found = kept = []", "found.append(1)", True), ("pass", "rows.append(1)", True),
                ("pass", "rows[0] = 1", True), ("pass", "self.rows = 1", True), ("pass", "self.rows.append(1)", True),
                ("pass", "return self.rows[0]", False), ("pass", "return rows.count(1)", False)):
            self.assertIs(bool(wrong_changes(function_with(first, row))), is_wrong, f"{first}; {row}")


if __name__ == "__main__":
    unittest.main()
