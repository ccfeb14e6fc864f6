"""Point 64."""

import unittest

from shelfterms import errors

ATTRIBUTES = {
    "InvalidCatalog": ("names",),
    "UnknownMark": ("name",),
    "InvalidBook": ("book",),
    "InvalidRule": ("terms",),
    "InvalidTerm": ("term",),
    "InvalidMark": ("mark",),
    "InvalidText": ("at",),
    "Unsorted": ("shelf", "index"),
    "InvalidName": ("name",),
    "DuplicateShelf": ("name",),
    "UnknownShelf": ("name",),
    "UnlikeCatalogs": (),
    "InvalidSpot": ("spot",),
    "InvalidPlace": ("place",),
    "InvalidBeginning": ("at",),
    "NoRule": ("barrier",),
    "Undecided": ("first", "second"),
    "OutOfRange": ("number",),
    "NotFitting": ("rule",),
    "InvalidDeed": ("index",),
    "NothingToUndo": (),
    "NothingToRedo": (),
    "InvalidSetting": ("value",),
}

# The points allow these to carry values of any kind.
CARRY_ANYTHING = (
    "InvalidBook", "InvalidTerm", "InvalidMark", "InvalidName", "InvalidSpot", "InvalidPlace",
    "InvalidSetting",
)


def made(word, values):
    return getattr(errors, word)(*values)


class ErrorClasses(unittest.TestCase):

    def test_shelf_error_is_a_value_error(self):
        self.assertTrue(issubclass(errors.ShelfError, ValueError))
        with self.assertRaises(ValueError):
            raise errors.ShelfError("a text")

    def test_all_others_are_direct_subclasses_of_shelf_error(self):
        self.assertEqual(len(ATTRIBUTES), 23)
        for word in ATTRIBUTES:
            with self.subTest(word):
                self.assertEqual(getattr(errors, word).__bases__, (errors.ShelfError,))

    def test_each_is_a_class_of_its_own(self):
        classes = {getattr(errors, word) for word in ATTRIBUTES}
        self.assertEqual(len(classes), len(ATTRIBUTES))
        for word in ATTRIBUTES:
            self.assertEqual(getattr(errors, word).__name__, word)

    def test_shelf_error_catches_each(self):
        for word, attributes in ATTRIBUTES.items():
            with self.subTest(word):
                caught = None
                try:
                    raise made(word, range(len(attributes)))
                except errors.ShelfError as error:
                    caught = error
                self.assertIs(type(caught), getattr(errors, word))


class Attributes(unittest.TestCase):

    def test_attributes_in_the_order_of_the_arguments(self):
        for word, attributes in ATTRIBUTES.items():
            with self.subTest(word):
                values = [("value", at) for at in range(len(attributes))]
                error = made(word, values)
                for attribute, value in zip(attributes, values):
                    self.assertIs(getattr(error, attribute), value)

    def test_values_of_any_kind_are_carried_as_they_are(self):
        for word in CARRY_ANYTHING:
            attribute, = ATTRIBUTES[word]
            for value in (None, True, 1, -10 ** 30, "", "a", [], [1], (), (1, 2), {}, object()):
                self.assertIs(getattr(made(word, [value]), attribute), value, word)

    def test_each_object_has_its_own_values(self):
        for word, attributes in ATTRIBUTES.items():
            first = made(word, ["first"] * len(attributes))
            made(word, ["second"] * len(attributes))
            for attribute in attributes:
                self.assertEqual(getattr(first, attribute), "first", word)


if __name__ == "__main__":
    unittest.main()
