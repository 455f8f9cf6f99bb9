"""Names, arguments and places of all that the interface lists for what has landed."""

import importlib
import inspect
import unittest

FUNCTIONS = {
    "cellsenough.base.frames": {"is_name": "(value)"},
    "cellsenough.logic.claims": {
        "is_claim": "(frame, value)", "is_guard": "(frame, own, value)", "is_body": "(frame, own, value)",
        "names_of": "(frame, claim)", "claim_depth": "(frame, claim)", "has_all": "(frame, claim)",
        "plain_claim": "(frame, claim, *, is_true=True)", "replaced": "(frame, claim, terms)",
        "used_at": "(frame, claim, terms)", "inside_claim": "(frame, array, term)",
        "all_between": "(frame, low, high, op, one, other)", "in_order": "(frame, array, low, high)",
        "renamed_claim": "(frame, claim, names)",
    },
    "cellsenough.world.listing": {
        "situations": "(frame, cells, low, high)", "count_situations": "(frame, cells, low, high)",
        "listed": "(frame, cells, low, high, index)", "first_with": "(frame, claims, cells, low, high)",
        "count_with": "(frame, claims, cells, low, high)",
        "first_breaking": "(frame, given, wanted, cells, low, high)",
    },
    "cellsenough.solve.rings": {
        "fitting": "(differences)", "is_fitting": "(differences, value)", "ring": "(differences)",
        "is_ring": "(differences, value)", "tightest": "(differences, one, other)", "needless": "(differences)",
        "differences_of": "(frame, claim)",
    },
    "cellsenough.solve.trees": {"is_tree": "(question, value)", "facts_at": "(question, tree, node)"},
    "cellsenough.decide.follows": {
        "follows": "(question)", "breaking": "(question)", "paper": "(question)", "is_paper": "(question, value)",
    },
    "cellsenough.decide.compare": {
        "are_alike": "(frame, one, other, given=())", "parting": "(frame, one, other, given=())",
        "implications": "(frame, claims, given=())", "claim_classes": "(frame, claims, given=())",
        "strongest": "(frame, claims, given=())", "weakest": "(frame, claims, given=())",
        "needless": "(frame, claims, given=())", "thinned": "(frame, claims, given=())", "core": "(question)",
        "core_paper": "(question)", "is_core_paper": "(question, value)",
    },
    "cellsenough.code.program": {"is_rows": "(frame, value)"},
    "cellsenough.code.pieces": {"pieces": "(outline)"},
    "cellsenough.keep.notes": {
        "is_kept": "(outline)", "broken_questions": "(outline)", "kept_paper": "(outline)",
        "is_kept_paper": "(outline, value)", "reached_break": "(outline, situations, *, most=100)",
    },
    "cellsenough.keep.greatest": {
        "greatest_choice": "(program, candidates, *, before=())", "ranks": "(program, candidates, *, before=())",
        "is_carried": "(program, candidates, value, *, before=())", "choice_paper": "(program, candidates, *, before=())",
        "is_choice_paper": "(program, candidates, value, *, before=())",
        "best_outline": "(program, candidates, *, before=(), after=())",
    },
    "cellsenough.keep.ends": {"does_end": "(outline, measures)", "end_faults": "(outline, measures)"},
    "cellsenough.keep.changes": {
        "do_work_alike": "(frame, one, other, given=())", "parting_rows": "(frame, one, other, given=())",
        "do_commute": "(frame, one, other, given=())", "unrolled": "(outline, loop)",
    },
    "cellsenough.text.texts": {
        "write_claim": "(frame, claim)", "write_rows": "(program)", "read_claim": "(frame, text)",
        "read_rows": "(frame, text)",
    },
    "cellsenough.code.runs": {
        "outcome": "(program, situation, *, most=100)", "first_break": "(outline, situation, *, most=100)",
    },
}
CONSTANTS = {
    "cellsenough.world.listing": {"MAX_LISTED": 200000},
    "cellsenough.solve.rings": {"MAX_DIFFERENCES": 60},
    "cellsenough.solve.questions": {"MAX_GIVEN": 40, "MAX_MEMBERS": 16},
    "cellsenough.code.pieces": {"MAX_PIECES": 64, "MAX_WRITES": 6},
    "cellsenough.desk.desk": {"MAX_CLAIMS": 8, "MAX_PINS": 8},
    "cellsenough.code.program": {"MAX_ROWS": 24, "MAX_LOOPS": 4, "MAX_INSIDE": 4, "MAX_NOTES": 8},
}
CLASSES = {
    ("cellsenough.base.frames", "Frame"): {
        "__init__": "(self, arrays, positions, values)", "length_of": "(self, array)", "kind_of": "(self, name)",
        "is_fresh": "(self, value)", "is_position_term": "(self, value, *, own=())",
        "is_value_term": "(self, value, *, own=())", "shifted": "(self, term, number)",
        "with_names": "(self, *, arrays=(), positions=(), values=())", "renamed": "(self, names)",
        "__contains__": "(self, value)", "__len__": "(self)", "__eq__": "(self, other)", "__str__": "(self)",
    },
    ("cellsenough.world.situations", "Situation"): {
        "__init__": "(self, frame, rows, positions, values)", "cell": "(self, array, position)",
        "position_at": "(self, term)", "value_at": "(self, term)", "holds": "(self, claim)", "failure": "(self, claim)",
        "with_cell": "(self, array, position, number)", "with_number": "(self, name, number)",
        "for_frame": "(self, frame)", "__len__": "(self)", "__eq__": "(self, other)", "__str__": "(self)",
    },
    ("cellsenough.solve.rings", "System"): {
        "__init__": "(self)", "add": "(self, one, other, number)", "bound": "(self, one, other)",
        "undo": "(self, *, many=1)", "twin": "(self)", "__len__": "(self)", "__eq__": "(self, other)",
        "__str__": "(self)",
    },
    ("cellsenough.solve.questions", "Question"): {
        "__init__": "(self, frame, given, wanted)", "is_broken_by": "(self, value)", "new_numbers": "(self, situation)",
        "laid": "(self, situation)", "small": "(self, situation)", "with_given": "(self, claim)",
        "without": "(self, index)", "wanting": "(self, claim)", "renamed": "(self, names)", "__len__": "(self)",
        "__eq__": "(self, other)", "__str__": "(self)",
    },
    ("cellsenough.solve.trees", "Closing"): {
        "__init__": "(self, question)", "part": "(self, fact, index)", "cases": "(self, fact)",
        "new": "(self, fact, *names)", "use": "(self, fact, *terms)", "apart": "(self, one, other)",
        "same": "(self, array, fact)", "outside": "(self, array, fact)", "ring": "(self, *steps)",
        "undo": "(self, *, many=1)", "twin": "(self)", "__bool__": "(self)", "__len__": "(self)",
        "__eq__": "(self, other)", "__str__": "(self)",
    },
    ("cellsenough.decide.follows", "Asker"): {
        "__init__": "(self, frame)", "tell": "(self, claim)", "ask": "(self, claim)", "why": "(self, claim)",
        "example": "(self)", "undo": "(self, *, many=1)", "twin": "(self)", "__contains__": "(self, value)",
        "__len__": "(self)", "__eq__": "(self, other)", "__str__": "(self)",
    },
    ("cellsenough.code.program", "Program"): {
        "__init__": "(self, frame, rows)", "row": "(self, number)", "with_rows": "(self, number, rows)",
        "loop_of": "(self, number)", "renamed": "(self, names)", "__add__": "(self, other)", "__iter__": "(self)",
        "__len__": "(self)", "__eq__": "(self, other)", "__str__": "(self)",
    },
    ("cellsenough.code.program", "Outline"): {
        "__init__": "(self, program, *, before=(), notes, after=())", "with_notes": "(self, loop, claims)",
        "__len__": "(self)", "__eq__": "(self, other)", "__str__": "(self)",
    },
    ("cellsenough.code.runs", "Run"): {
        "__init__": "(self, program, situation)", "is_done": "(self)", "is_faulty": "(self)", "go": "(self)",
        "go_on": "(self, *, most=100)", "undo": "(self, *, many=1)", "twin": "(self)", "__len__": "(self)",
        "__eq__": "(self, other)", "__str__": "(self)",
    },
    ("cellsenough.code.pieces", "Piece"): {
        "questions": "(self)", "is_right": "(self)", "carried": "(self, situation)", "lifted": "(self, situation)",
        "__eq__": "(self, other)", "__str__": "(self)",
    },
    ("cellsenough.desk.desk", "Desk"): {
        "__init__": "(self, frame)", "enter": "(self, name, claim)", "remove": "(self, name)", "suppose": "(self, claim)",
        "drop": "(self, index)", "pin": "(self, pin)", "unpin": "(self, pin)", "undo": "(self, *, many=1)",
        "redo": "(self, *, many=1)", "follows": "(self, one, other)", "paper": "(self, one, other)",
        "__getitem__": "(self, at)", "__contains__": "(self, value)", "__len__": "(self)", "__iter__": "(self)",
        "twin": "(self)", "__eq__": "(self, other)", "__str__": "(self)",
    },
    ("cellsenough.text.shell", "Shell"): {
        "__init__": "(self, frame)", "__call__": "(self, command)", "desk": "(self)", "__len__": "(self)",
        "__str__": "(self)",
    },
}
PROPERTIES = {
    ("cellsenough.code.pieces", "Piece"): (
        "outline", "start", "stop", "answers", "trail", "frame", "claims", "goals", "facts", "ends"),
    ("cellsenough.desk.desk", "Desk"): ("frame", "facts", "claims", "pins"),
    ("cellsenough.base.frames", "Frame"): ("arrays", "positions", "amounts", "lengths"),
    ("cellsenough.world.situations", "Situation"): ("frame", "rows", "positions", "amounts", "lengths"),
    ("cellsenough.solve.rings", "System"): ("differences", "fitting"),
    ("cellsenough.solve.questions", "Question"): ("frame", "claims", "goal", "members", "fresh", "few", "facts"),
    ("cellsenough.solve.trees", "Closing"): ("facts", "open_nodes", "tree"),
    ("cellsenough.decide.follows", "Asker"): ("known",),
    ("cellsenough.code.program", "Program"): ("frame", "rows", "conditions", "changed"),
    ("cellsenough.code.program", "Outline"): ("program", "frame", "before", "notes", "after"),
    ("cellsenough.code.runs", "Run"): ("situation", "next_row", "steps", "trail"),
}


class Interface(unittest.TestCase):
    def test_functions(self):
        for module, functions in FUNCTIONS.items():
            for name, parameters in functions.items():
                with self.subTest(module, name=name):
                    function = getattr(importlib.import_module(module), name)
                    self.assertEqual(str(inspect.signature(function)), parameters)
                    self.assertEqual(function.__module__, module)

    def test_constants(self):
        for module, constants in CONSTANTS.items():
            for name, number in constants.items():
                self.assertEqual(getattr(importlib.import_module(module), name), number)

    def test_methods(self):
        for (module, name), methods in CLASSES.items():
            made = getattr(importlib.import_module(module), name)
            self.assertEqual(made.__module__, module)
            for method, parameters in methods.items():
                with self.subTest(name, method=method):
                    self.assertEqual(str(inspect.signature(vars(made)[method])), parameters)

    def test_properties(self):
        for (module, name), properties in PROPERTIES.items():
            for told in properties:
                with self.subTest(name, told=told):
                    self.assertIsInstance(vars(getattr(importlib.import_module(module), name))[told], property)


if __name__ == "__main__":
    unittest.main()
