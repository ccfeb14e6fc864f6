"""The interface and the limits of size: what can be read off the files."""

import ast
import pathlib
import unittest

FOLDER = pathlib.Path(__file__).resolve().parent.parent / "shelfterms"

# For each module that is written: its functions, and its classes with their methods,
# each with its parameters.
INTERFACE = {
    "errors": ({}, {
        word: {} for word in (
            "ShelfError", "InvalidCatalog", "UnknownMark", "InvalidBook", "InvalidRule",
            "InvalidTerm", "InvalidMark", "InvalidText", "Unsorted", "InvalidName",
            "DuplicateShelf", "UnknownShelf", "UnlikeCatalogs", "InvalidSpot", "InvalidPlace",
            "InvalidBeginning", "NoRule", "Undecided", "OutOfRange", "NotFitting", "InvalidDeed",
            "NothingToUndo", "NothingToRedo", "InvalidSetting",
        )
    }),
    "catalog": ({}, {
        "Catalog": {
            "__init__": "self, *names", "numbered": "cls, count", "index_of": "self, name",
            "is_book": "self, value", "make_book": "self, *values, **named",
            "__len__": "self", "__contains__": "self, name", "__eq__": "self, other",
        },
    }),
    "steps": ({
        "step_between": "earlier, later", "good_terms": "step", "bad_terms": "step",
        "all_terms": "count", "term_rank": "term", "verdict": "terms, step",
    }, {}),
    "rules": ({}, {
        "Rule": {
            "__init__": "self, *terms", "marks": "self", "ascending": "*marks",
            "listed": "cls, terms", "read": "cls, catalog, text", "direction_of": "self, mark",
            "compare": "self, first, second", "arranged": "self, books",
            "merged": "self, *shelves", "written": "self, catalog", "__call__": "self, book",
            "__len__": "self", "__contains__": "self, mark", "__eq__": "self, other",
            "__neg__": "self", "__add__": "self, other",
        },
    }),
    "evidence": ({}, {
        "Evidence": {
            "__init__": "self, catalog", "shelf_names": "self", "of": "cls, catalog, **shelves",
            "with_shelf": "self, name, *books", "with_books": "self, name, books",
            "without_shelf": "self, name", "with_question": "self, books", "all_spots": "self",
            "places": "self, spots=()", "pair": "self, place", "step": "self, place",
            "fits": "self, rule", "explains": "self, rule", "fault": "self, rule",
            "__getitem__": "self, name", "__len__": "self", "__contains__": "self, name",
            "__eq__": "self, other", "__add__": "self, other",
        },
    }),
    "papers": ({}, {
        "Paper": {"told": "self, catalog"},
        "Barrier": {
            "__init__": "self, inside, exits, blocks", "told": "self, catalog",
            "__and__": "self, other",
        },
        "Gate": {
            "__init__": "self, inside, exits, blocks, among, place", "told": "self, catalog",
        },
        "Refusal": {"__init__": "self, barrier, children", "told": "self, catalog"},
        "Scarcity": {"__init__": "self, bound, gates", "told": "self, catalog"},
    }),
    "family": ({}, {
        "Family": {
            "__init__": "self, evidence, spots=()", "sound": "self",
            "open_terms": "self, used=()", "is_beginning": "self, terms",
            "is_feasible": "self, marks", "reach": "self, barred=()", "ahead_of": "self, mark",
            "feasible_sets": "self", "least_sets": "self, mark", "complete": "self, terms=()",
            "directions": "self, mark", "find_barrier": "self, exits=()",
        },
    }),
    "answers": ({
        "settle": "evidence, spots=()", "order_of": "evidence, first, second",
        "chain_paper": "evidence, books", "slot_papers": "evidence, name, book",
        "slots": "evidence, name, book", "exits_of": "evidence, inside",
        "exit_paper": "evidence, inside, exits", "mark_paper": "evidence, first, second",
        "direction_paper": "evidence, mark, direction", "need_paper": "evidence, mark",
        "line_up": "evidence, books",
    }, {
        "Order": {"__init__": "self, first, second, before, after", "word": "self"},
    }),
    "judging": ({
        "judge_rule": "evidence, rule, spots=()", "judge_barrier": "evidence, barrier, spots=()",
        "judge_before": "evidence, barrier, first, second", "judge_gate": "evidence, gate",
        "judge_scarcity": "evidence, paper", "judge_refusal": "evidence, refusal, most",
    }, {}),
    "numbering": ({}, {
        "Numbering": {
            "__init__": "self, evidence", "rule_at": "self, number", "number_of": "self, rule",
            "walk": "self, start=0", "share": "self, first, second",
            "__contains__": "self, rule",
        },
    }),
    "shortening": ({
        "is_implied": "evidence, books", "spine": "evidence", "shortest": "evidence",
        "scarcity": "evidence",
    }, {}),
    "culling": ({"blame": "evidence", "cull": "evidence, most=1"}, {}),
    "asking": ({
        "outcomes": "evidence, books", "worst": "evidence, books", "best": "evidence, *groups",
        "plan": "evidence, books",
    }, {
        "Plan": {},
        "Leaf": {
            "__init__": "self, arrangement", "follow": "self, rule", "deepest": "self",
            "arrangements": "self",
        },
        "Fork": {
            "__init__": "self, books, first, second, before, after", "follow": "self, rule",
            "deepest": "self", "arrangements": "self",
        },
    }),
    "library": ({}, {
        "Library": {
            "__init__": "self, catalog", "evidence": "self", "rules_left": "self",
            "undo_depth": "self", "redo_depth": "self", "put": "self, name, *books",
            "insert": "self, name, at, book", "take": "self, name, at", "drop": "self, name",
            "run": "self, *deeds", "undo": "self", "redo": "self", "set_strict": "self, value",
            "probe": "self, *deeds", "watch": "self, first, second", "news": "self",
        },
    }),
    "notation": ({
        "write_evidence": "evidence", "read_evidence": "text", "chart": "evidence",
    }, {}),
}


def parsed(path):
    return ast.parse(path.read_text(encoding="ascii"))


def defined(body, kind):
    return {node.name: node for node in body if isinstance(node, kind)}


class Interface(unittest.TestCase):

    def assert_defined(self, body, functions, where):
        """Fail unless the functions are defined there, with these parameters."""
        found = defined(body, ast.FunctionDef)
        for name, parameters in functions.items():
            self.assertIn(name, found, where)
            self.assertEqual(ast.unparse(found[name].args), parameters, (where, name))

    def test_each_function_and_class_is_defined_in_its_file(self):
        for module, (functions, classes) in INTERFACE.items():
            body = parsed(FOLDER / f"{module}.py").body
            self.assert_defined(body, functions, module)
            for name in classes:
                self.assertIn(name, defined(body, ast.ClassDef), module)

    def test_each_method_is_defined_in_its_class(self):
        for module, (_, classes) in INTERFACE.items():
            found = defined(parsed(FOLDER / f"{module}.py").body, ast.ClassDef)
            for name, methods in classes.items():
                self.assert_defined(found[name].body, methods, name)

    def test_strict_can_be_read_and_assigned(self):
        body = defined(parsed(FOLDER / "library.py").body, ast.ClassDef)["Library"].body
        parameters = [
            ast.unparse(node.args) for node in body
            if isinstance(node, ast.FunctionDef) and node.name == "strict"
        ]
        self.assertEqual(parameters, ["self", "self, value"])

    def test_every_module_of_the_interface_is_listed(self):
        # Beside the modules of the interface there is one helper alone.
        names = sorted(path.stem for path in FOLDER.glob("*.py"))
        self.assertEqual(names, sorted([*INTERFACE, "__init__", "kinds"]))


class Files(unittest.TestCase):

    def paths(self):
        return sorted(FOLDER.rglob("*.py"))

    def test_the_package_has_an_init_file(self):
        self.assertIn(FOLDER / "__init__.py", self.paths())

    def test_lines_and_characters(self):
        for path in self.paths():
            lines = path.read_bytes().decode("ascii").split("\n")
            self.assertLessEqual(len(lines), 400, path.name)
            for line in lines:
                self.assertLessEqual(len(line), 120, path.name)
                self.assertTrue(all(" " <= letter <= "~" for letter in line), path.name)

    def test_functions(self):
        for path in self.paths():
            for node in ast.walk(parsed(path)):
                if isinstance(node, (ast.FunctionDef, ast.Lambda)):
                    self.assertLessEqual(node.end_lineno - node.lineno + 1, 40, path.name)

    def test_no_percent_sign_in_a_string(self):
        for path in self.paths():
            for node in ast.walk(parsed(path)):
                if isinstance(node, ast.Constant) and isinstance(node.value, str):
                    self.assertNotIn("%", node.value, path.name)


if __name__ == "__main__":
    unittest.main()
