"""The interface and the limits of size: what can be read off the files."""

import ast
import pathlib
import unittest

FOLDER = pathlib.Path(__file__).resolve().parent.parent / "shelfterms"

# For each module that is written: its functions, and its classes with their methods.
INTERFACE = {
    "errors": ((), {
        word: () for word in (
            "ShelfError", "InvalidCatalog", "UnknownMark", "InvalidBook", "InvalidRule",
            "InvalidTerm", "InvalidMark", "InvalidText", "Unsorted", "InvalidName",
            "DuplicateShelf", "UnknownShelf", "UnlikeCatalogs", "InvalidSpot", "InvalidPlace",
            "InvalidBeginning", "NoRule", "Undecided", "OutOfRange", "NotFitting", "InvalidDeed",
            "NothingToUndo", "NothingToRedo", "InvalidSetting",
        )
    }),
    "catalog": ((), {
        "Catalog": ("numbered", "index_of", "is_book", "make_book", "__len__", "__eq__"),
    }),
    "steps": (
        ("step_between", "good_terms", "bad_terms", "all_terms", "term_rank", "verdict"), {},
    ),
}


def parsed(path):
    return ast.parse(path.read_text(encoding="ascii"))


def defined(body, kind):
    return {node.name: node for node in body if isinstance(node, kind)}


class Interface(unittest.TestCase):

    def test_each_function_and_class_is_defined_in_its_file(self):
        for module, (functions, classes) in INTERFACE.items():
            body = parsed(FOLDER / f"{module}.py").body
            for name in functions:
                self.assertIn(name, defined(body, ast.FunctionDef), module)
            for name in classes:
                self.assertIn(name, defined(body, ast.ClassDef), module)

    def test_each_method_is_defined_in_its_class(self):
        for module, (_, classes) in INTERFACE.items():
            found = defined(parsed(FOLDER / f"{module}.py").body, ast.ClassDef)
            for name, methods in classes.items():
                for method in methods:
                    self.assertIn(method, defined(found[name].body, ast.FunctionDef), name)


class Files(unittest.TestCase):

    def paths(self):
        return sorted(FOLDER.rglob("*.py"))

    def test_the_package_has_an_init_file(self):
        self.assertIn(FOLDER / "__init__.py", self.paths())

    def test_lines_and_characters(self):
        for path in self.paths():
            lines = path.read_bytes().decode("ascii").split("\n")
            self.assertLessEqual(len(lines), 400, path.name)
            for line in lines:
                self.assertLessEqual(len(line), 120, path.name)
                self.assertTrue(all(" " <= letter <= "~" for letter in line), path.name)

    def test_functions(self):
        for path in self.paths():
            for node in ast.walk(parsed(path)):
                if isinstance(node, (ast.FunctionDef, ast.Lambda)):
                    self.assertLessEqual(node.end_lineno - node.lineno + 1, 40, path.name)

    def test_no_percent_sign_in_a_string(self):
        for path in self.paths():
            for node in ast.walk(parsed(path)):
                if isinstance(node, ast.Constant) and isinstance(node.value, str):
                    self.assertNotIn("%", node.value, path.name)


if __name__ == "__main__":
    unittest.main()
