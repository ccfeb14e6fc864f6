"""Points 11 to 16, and point 2 for the rules."""

import itertools
import random
import unittest

from shelfterms.catalog import Catalog
from shelfterms.errors import InvalidRule, InvalidText, Unsorted
from shelfterms.rules import Rule
from support import NAMES, OTHER_KINDS, Asserts, order_by, replaced

BOUND = 10 ** 12
ALL_TERMS = [(mark, direction) for mark in range(8) for direction in (1, -1)]

# Values that are no terms; most of them look like one.
NO_TERMS = (
    (), (0,), (0, 1, 1), (0, 1, 0), ((0, 1),), [0, 1], [], "01", "a", b"01", {0: 1}, 0, 1, -1,
    (-1, 1), (8, 1), (9, -1), (10 ** 30, 1), (-10 ** 30, 1), (0, 0), (0, 2), (0, -2), (7, 3),
    (0, 10 ** 30), (True, 1), (False, 1), (0, True), (0, False), (1, True), (True, True),
    (False, -1), ([0], 1), (0, [1]), ([], []), ((0,), 1), (0, (1,)), ("0", 1), (0, "1"),
    ("a", 1), (0, "asc"), (0, None), (None, 1), (0.0, 1), (0, 1.0), (0, -1.0), (1j, 1), (0, 1j),
    ({}, 1), (0, {}), (0, set()), *OTHER_KINDS,
)


def some_rules():
    """Return the terms of rules of 0 to 8 terms, in many orders and directions."""
    found = [
        tuple(zip(marks, directions))
        for many in range(4)
        for marks in itertools.permutations(range(3), many)
        for directions in itertools.product((1, -1), repeat=many)
    ]
    chance = random.Random(11)
    for many in range(9):
        for _ in range(15):
            marks = chance.sample(range(8), many)
            found.append(tuple((mark, chance.choice((1, -1))) for mark in marks))
    return found


RULES = some_rules()


class RuleTerms(Asserts, unittest.TestCase):

    def test_terms(self):
        for terms in RULES:
            self.assert_same(Rule(*terms).terms, terms)
            self.assert_same(Rule.listed(list(terms)).terms, terms)
            self.assertIs(type(Rule(*terms)), Rule)
            self.assertIs(type(Rule.listed(list(terms))), Rule)

    def test_marks_and_len(self):
        for terms in RULES:
            for rule in (Rule(*terms), Rule.listed(list(terms))):
                self.assert_same(rule.marks, tuple(mark for mark, _ in terms))
                self.assert_same(len(rule), len(terms))

    def test_direction_of_and_in(self):
        for terms in RULES:
            rule, directions = Rule(*terms), dict(terms)
            for mark in (*range(8), -1, 8, 100, -8):
                self.assert_same(rule.direction_of(mark), directions.get(mark, 0))
                self.assertIs(mark in rule, mark in directions)
                self.assertIs(mark not in rule, mark not in directions)

    def test_ascending(self):
        for terms in RULES:
            marks = [mark for mark, _ in terms]
            rule = Rule.ascending(*marks)
            self.assertIs(type(rule), Rule)
            self.assert_same(rule.terms, tuple((mark, 1) for mark in marks))
            self.assert_same(rule.marks, tuple(marks))

    def test_class_functions_off_an_object(self):
        rule = Rule((0, 1))
        self.assert_same(rule.ascending(3, 1).terms, ((3, 1), (1, 1)))
        self.assert_same(rule.listed([(3, -1)]).terms, ((3, -1),))
        self.assert_same(rule.terms, ((0, 1),))

    def test_the_list_stays_and_may_be_changed(self):
        for terms in RULES:
            given = list(terms)
            rule = Rule.listed(given)
            self.assert_same(given, list(terms))
            given.append((0, 1))
            given[0] = (5, -1)
            self.assert_same(rule.terms, terms)
            self.assert_same(len(rule), len(terms))

    def test_arguments_by_name(self):
        self.assert_same(Rule.listed(terms=[(1, -1)]).terms, ((1, -1),))
        rule = Rule((1, -1))
        self.assert_same(rule.direction_of(mark=1), -1)
        self.assert_same(rule.compare(second=(0, 1), first=(0, 2)), -1)
        self.assert_same(rule.arranged(books=[(0, 1), (0, 2)]), [(0, 2), (0, 1)])
        catalog = Catalog("a", "b")
        self.assert_same(rule.written(catalog=catalog), "b desc")
        self.assert_same(Rule.read(text="b desc", catalog=catalog).terms, ((1, -1),))


class RuleEquality(Asserts, unittest.TestCase):

    def test_rules(self):
        for first, second in itertools.product(RULES[:100:3] + RULES[-60:], repeat=2):
            self.assert_equal_both_ways(Rule(*first), Rule(*second), first == second)

    def test_the_same_terms_made_in_other_ways(self):
        for terms in RULES:
            rule = Rule(*terms)
            self.assert_equal_both_ways(rule, rule, True)
            self.assert_equal_both_ways(rule, Rule.listed(list(terms)), True)
            self.assert_equal_both_ways(-(-rule), rule, True)
        self.assert_equal_both_ways(Rule.ascending(2, 0), Rule((2, 1), (0, 1)), True)

    def test_one_change(self):
        terms = tuple((mark, 1 if mark in (0, 3, 4) else -1) for mark in (3, 0, 7, 4, 1, 6, 2, 5))
        rule = Rule(*terms)
        for at, (mark, direction) in enumerate(terms):
            other = Rule(*replaced(terms, at, (mark, -direction)))
            self.assert_equal_both_ways(rule, other, False)
            self.assert_equal_both_ways(rule, Rule(*terms[:at], *terms[at + 1:]), False)
            self.assert_equal_both_ways(rule, Rule(*terms[:at]), False)
        for at in range(7):
            swapped = (*terms[:at], terms[at + 1], terms[at], *terms[at + 2:])
            self.assert_equal_both_ways(rule, Rule(*swapped), False)

    def test_values_of_other_kinds(self):
        for terms in RULES[:30] + RULES[-30:]:
            rule = Rule(*terms)
            kinds = (
                terms, list(terms), dict(terms), repr(terms), len(terms), rule.marks, (terms,),
                Rule, rule.compare, InvalidRule(terms), Catalog.numbered(2), "", 0, *OTHER_KINDS,
            )
            for value in kinds:
                self.assert_equal_both_ways(rule, value, False)

    def test_a_look_alike_of_another_class(self):
        class LookAlike:
            terms = ((0, 1),)

        self.assert_equal_both_ways(Rule((0, 1)), LookAlike(), False)


class InvalidRules(Asserts, unittest.TestCase):

    def assert_invalid(self, values):
        for function, arguments in ((Rule, values), (Rule.listed, [list(values)])):
            with self.assertRaises(InvalidRule) as caught:
                function(*arguments)
            self.assertIs(type(caught.exception), InvalidRule)
            self.assert_identical_items(caught.exception.terms, values)

    def test_a_value_that_is_no_term_at_each_place(self):
        chance = random.Random(12)
        for count in range(1, 9):
            for at in range(count):
                terms = tuple((mark, chance.choice((1, -1))) for mark in range(count))
                for value in NO_TERMS:
                    self.assert_invalid(replaced(terms, at, value))

    def test_only_such_values_and_one_more(self):
        for value in NO_TERMS:
            self.assert_invalid((value, value))
            self.assert_invalid((value,) * 8)
            self.assert_invalid(tuple((mark, 1) for mark in range(8)) + (value,))

    def test_a_mark_twice(self):
        for count in range(2, 9):
            for first, second in itertools.combinations(range(count), 2):
                terms = tuple((mark, 1) for mark in range(count))
                for direction in (1, -1):
                    self.assert_invalid(replaced(terms, second, (first, direction)))
        for term in ALL_TERMS:
            self.assert_invalid((term, term))
            self.assert_invalid((*[other for other in ALL_TERMS if other[1] == 1], term))

    def test_ascending(self):
        wrong = (-1, 8, 10 ** 30, "0", "a", (0, 1), (0,), 0.0, [0], *OTHER_KINDS)
        for count in range(1, 9):
            for at in range(count):
                for value in wrong:
                    marks = replaced(tuple(range(count)), at, value)
                    with self.assertRaises(InvalidRule) as caught:
                        Rule.ascending(*marks)
                    self.assert_ascending(caught.exception.terms, marks)

    def test_ascending_with_a_mark_twice(self):
        for marks in ((0, 0), (7, 3, 7), (1, 2, 2), tuple(range(8)) + (0,)):
            with self.assertRaises(InvalidRule) as caught:
                Rule.ascending(*marks)
            self.assert_ascending(caught.exception.terms, marks)

    def assert_ascending(self, terms, marks):
        self.assertIs(type(terms), tuple)
        self.assertEqual(len(terms), len(marks))
        for term, mark in zip(terms, marks):
            self.assertIs(type(term), tuple)
            self.assertEqual(len(term), 2)
            self.assertIs(term[0], mark)
            self.assert_same(term[1], 1)


class Comparing(Asserts, unittest.TestCase):

    def test_by_hand(self):
        rule = Rule((1, -1), (0, 1))
        self.assert_same(rule.compare((5, 2), (1, 1)), -1)
        self.assert_same(rule.compare((1, 1), (5, 2)), 1)
        self.assert_same(rule.compare((5, 2), (1, 2)), 1)
        self.assert_same(rule.compare((1, 2), (5, 2)), -1)
        self.assert_same(rule.compare((1, 2), (1, 2)), 0)
        self.assert_same(rule((5, 2)), (-2, 5))
        self.assert_same(rule((-5, -2)), (2, -5))
        self.assert_same(rule((0, 0)), (0, 0))

    def test_books_that_differ_on_no_mark_on_one_and_on_several(self):
        books = list(itertools.product((-3, 0, 8), repeat=3))
        for terms in RULES:
            if len(terms) > 3 or any(mark > 2 for mark, _ in terms):
                continue
            rule = Rule(*terms)
            for first, second in itertools.product(books, repeat=2):
                expected = order_by(terms, first, second)
                self.assert_same(rule.compare(first, second), expected)
                keys = (rule(first), rule(second))
                self.assertEqual((keys[0] > keys[1]) - (keys[0] < keys[1]), expected)

    def test_one_mark_of_eight(self):
        for at in range(8):
            low = (5,) * 8
            high = replaced(low, at, 6)
            for direction in (1, -1):
                for order in (range(8), range(7, -1, -1)):
                    rule = Rule(*[(mark, direction) for mark in order])
                    self.assert_same(rule.compare(low, high), -direction)
                    self.assert_same(rule.compare(high, low), direction)
                    rest = Rule(*[(mark, direction) for mark in order if mark != at])
                    self.assert_same(rest.compare(low, high), 0)

    def test_the_key(self):
        book = (4, -7, 0, BOUND, -BOUND, 1, 2, 3)
        for terms in RULES:
            expected = tuple(direction * book[mark] for mark, direction in terms)
            self.assert_same(Rule(*terms)(book), expected)

    def test_bounds(self):
        rule = Rule((0, 1), (1, -1))
        self.assert_same(rule.compare((BOUND - 1, 0), (BOUND, 0)), -1)
        self.assert_same(rule.compare((0, 1 - BOUND), (0, -BOUND)), -1)
        self.assert_same(rule((BOUND, -BOUND)), (BOUND, BOUND))

    def test_without_terms(self):
        rule = Rule()
        self.assert_same(rule.compare((1, 2), (2, 1)), 0)
        self.assert_same(rule((1, 2)), ())

    def test_the_key_serves_as_a_key(self):
        books = [(1, 1), (0, 2), (1, 2), (0, 1)]
        rule = Rule((1, -1), (0, 1))
        self.assertEqual(sorted(books, key=rule), [(0, 2), (1, 2), (0, 1), (1, 1)])


class Operators(Asserts, unittest.TestCase):

    def test_minus(self):
        for terms in RULES:
            rule = Rule(*terms)
            opposite = -rule
            self.assertIs(type(opposite), Rule)
            self.assert_same(opposite.terms, tuple((mark, -way) for mark, way in terms))
            self.assert_same(rule.terms, terms)

    def assert_sum(self, first, second):
        rule, other = Rule(*first), Rule(*second)
        total = rule + other
        self.assertIs(type(total), Rule)
        marks = [mark for mark, _ in first]
        more = tuple(term for term in second if term[0] not in marks)
        self.assert_same(total.terms, first + more)
        self.assert_same((rule.terms, other.terms), (first, second))

    def test_plus(self):
        for first, second in itertools.product(RULES[::2], repeat=2):
            self.assert_sum(first, second)

    def test_plus_by_hand(self):
        total = Rule((2, 1), (0, -1)) + Rule((0, 1), (3, -1), (2, 1), (1, 1))
        self.assert_same(total.terms, ((2, 1), (0, -1), (3, -1), (1, 1)))

    def test_a_rule_and_itself(self):
        for terms in RULES:
            rule = Rule(*terms)
            self.assert_same((rule + rule).terms, terms)
            self.assert_same((rule + -rule).terms, terms)
            self.assert_same((rule + Rule()).terms, terms)
            self.assert_same((Rule() + rule).terms, terms)

    def test_three_from_either_side(self):
        chance = random.Random(13)
        for _ in range(300):
            first, second, third = [Rule(*chance.choice(RULES)) for _ in range(3)]
            left = (first + second) + third
            right = first + (second + third)
            self.assert_same(left.terms, right.terms)


class Arranging(Asserts, unittest.TestCase):

    # Equal tuples that are not the same object, so that the order of equal books shows.
    def twin(self, book):
        return tuple(list(book))

    def assert_items(self, actual, expected):
        self.assertIs(type(actual), list)
        self.assertEqual(actual, expected)
        for one, other in zip(actual, expected):
            self.assertIs(one, other)

    def by_insertion(self, rule, books):
        found = []
        for book in books:
            at = len(found)
            while at > 0 and order_by(rule.terms, found[at - 1], book) == 1:
                at -= 1
            found.insert(at, book)
        return found

    def random_books(self, chance, many, most=2):
        return [tuple(chance.randint(-1, most) for _ in range(8)) for _ in range(many)]

    def test_no_book_and_one(self):
        for terms in RULES:
            rule = Rule(*terms)
            self.assert_same(rule.arranged([]), [])
            book = (3, 1, 4, 1, 5, 9, 2, 6)
            self.assert_items(rule.arranged([book]), [book])

    def test_many(self):
        chance = random.Random(14)
        for terms in RULES:
            rule = Rule(*terms)
            for many in (2, 3, 7, 40):
                books = self.random_books(chance, many, chance.choice((0, 1, 9)))
                given = list(books)
                self.assert_items(rule.arranged(given), self.by_insertion(rule, books))
                self.assert_items(given, books)

    def test_open_and_equal_books_keep_their_order(self):
        first, second, third = (1, 5), (1, 4), (1, 6)
        rule = Rule((0, -1))
        books = [first, (0, 0), second, self.twin(first), (2, 2), third, self.twin(second)]
        expected = [books[at] for at in (4, 0, 2, 3, 5, 6, 1)]
        self.assert_items(rule.arranged(books), expected)
        self.assert_items(Rule().arranged(books), books)

    def test_the_result_is_new(self):
        rule = Rule((0, 1))
        for books in ([], [(1,)], [(1,), (2,)], [(2,), (1,)]):
            given = list(books)
            result = rule.arranged(given)
            expected = list(result)
            self.assertIsNot(result, given)
            result.append((0,))
            self.assert_same(given, books)
            self.assert_same(rule.arranged(given), expected)

    def test_merged_of_no_list_and_of_empty_lists(self):
        for rule in (Rule(), Rule((0, 1))):
            self.assert_same(rule.merged(), [])
            self.assert_same(rule.merged([]), [])
            self.assert_same(rule.merged([], [], []), [])

    def test_merged_of_one_list(self):
        rule = Rule((1, -1))
        books = [(5, 3), (4, 3), (7, 2), (7, 2), (0, -1)]
        result = rule.merged(books)
        self.assert_items(result, books)
        self.assertIsNot(result, books)
        result.append((0, 0))
        self.assert_same(len(books), 5)
        self.assert_items(rule.merged([], books, []), books)

    def test_merged_by_hand(self):
        rule = Rule((0, 1))
        one, two = [(1, 1), (2, 1), (2, 2)], [(0, 9), (1, 0), (2, 0), (3, 0)]
        expected = [two[0], one[0], two[1], one[1], one[2], two[2], two[3]]
        self.assert_items(rule.merged(one, two), expected)
        expected = [two[0], two[1], one[0], two[2], one[1], one[2], two[3]]
        self.assert_items(rule.merged(two, one), expected)

    def test_merged_of_several(self):
        chance = random.Random(15)
        for terms in RULES:
            rule = Rule(*terms)
            shelves = [
                self.by_insertion(rule, self.random_books(chance, chance.randint(0, 6), 1))
                for _ in range(chance.randint(1, 5))
            ]
            given = [list(books) for books in shelves]
            result = rule.merged(*given)
            together = [book for books in shelves for book in books]
            self.assert_items(result, self.by_insertion(rule, together))
            for books, shelf in zip(given, shelves):
                self.assert_items(books, shelf)
            result.clear()
            self.assert_items(rule.merged(*given), self.by_insertion(rule, together))

    def test_one_list_as_several_arguments(self):
        books = [(0, 1), (0, 0), (1, 5)]
        self.assert_items(
            Rule((0, 1)).merged(books, books), [*books[:2], *books[:2], books[2], books[2]],
        )

    def test_unsorted(self):
        rule = Rule((0, 1), (1, -1))
        good = [(0, 0), (0, 0), (1, 5), (1, 2), (3, 0)]
        self.assert_raises(Unsorted, {"shelf": 0, "index": 0}, rule.merged, [(1, 0), (0, 0)])
        self.assert_raises(Unsorted, {"shelf": 0, "index": 0}, rule.merged, [(1, 0), (1, 1)])
        for at in range(5):
            wrong = [*good[:at], (9, 9), *good[at:]]
            for before in range(3):
                shelves = [good, [], good][:before]
                for behind in ([], [good], [[(9, 9), (1, 1), (0, 0)]], [good, wrong]):
                    self.assert_raises(
                        Unsorted, {"shelf": before, "index": at},
                        rule.merged, *shelves, wrong, *behind,
                    )

    def test_the_first_index_of_several(self):
        rule = Rule((0, -1))
        shelf = [(5,), (5,), (3,), (4,), (2,), (6,)]
        self.assert_raises(Unsorted, {"shelf": 1, "index": 2}, rule.merged, [(1,)], shelf, shelf)
        self.assert_raises(Unsorted, {"shelf": 0, "index": 4}, rule.merged, [*shelf[:3], (1,), (0,), (7,)])

    def test_unsorted_leaves_the_lists(self):
        first, second = [(1,), (2,)], [(2,), (1,)]
        self.assert_raises(Unsorted, {}, Rule((0, 1)).merged, first, second)
        self.assert_same((first, second), ([(1,), (2,)], [(2,), (1,)]))

    def test_a_rule_without_terms_finds_nothing_unsorted(self):
        self.assert_same(Rule().merged([(2,), (1,)], [(0,)]), [(2,), (1,), (0,)])


CATALOG = Catalog("height", "year", "a", "desc", "asc", "abcdefghijkl", "z", "ab")


class Texts(Asserts, unittest.TestCase):

    def test_written_by_hand(self):
        self.assert_same(Rule().written(CATALOG), "")
        self.assert_same(Rule((0, 1)).written(CATALOG), "height asc")
        self.assert_same(Rule((5, -1)).written(CATALOG), "abcdefghijkl desc")
        self.assert_same(Rule((3, 1), (4, -1)).written(CATALOG), "desc asc, asc desc")
        rule = Rule((1, -1), (0, 1), (2, -1))
        self.assert_same(rule.written(CATALOG), "year desc, height asc, a desc")
        self.assert_same(rule.written(Catalog("x", "y", "z")), "y desc, x asc, z desc")

    def test_written_and_read(self):
        for catalog in (CATALOG, Catalog.numbered(8), Catalog(*reversed(NAMES))):
            for terms in RULES:
                rule = Rule(*terms)
                words = {1: "asc", -1: "desc"}
                text = ", ".join(f"{catalog.names[mark]} {words[way]}" for mark, way in terms)
                self.assert_same(rule.written(catalog), text)
                again = Rule.read(catalog, text)
                self.assertIs(type(again), Rule)
                self.assertIs(again == rule, True)
                self.assert_same(again.terms, terms)
                self.assert_same(rule.terms, terms)

    def test_the_empty_text(self):
        for catalog in (CATALOG, Catalog("a")):
            self.assert_same(Rule.read(catalog, "").terms, ())

    def test_marks_outside_of_a_smaller_catalog(self):
        self.assert_raises(InvalidText, {"at": 1}, Rule.read, Catalog("a"), "b asc")
        self.assert_raises(InvalidText, {"at": 2}, Rule.read, Catalog("a"), "a asc, b asc")

    # Parts that are wrong wherever they stand.
    WRONG = (
        "", " ", "height", "desc", "asc", "color asc", "heigh asc", "heights asc", "HEIGHT asc",
        "Height asc", "height ASC", "height Desc", "height up", "height ascending", "height as",
        "height descasc", "height  asc", " height asc", "height asc ", "height asc desc",
        "height asc asc", "height, asc", "height,asc", "height asc,year desc", "height asc,",
        ",height asc", ",", "height\tasc", "height\nasc", "height asc\n", "\nheight asc",
        "height 1", "height -1", "0 asc", "0 1", "height asc;", "(0, 1)", "asc height",
        "height_asc", "heightasc", "height asc.", "-height", "height -", "  ", "height ",
        " asc", "%", "abcdefghijklm asc", "? asc", "height asc year desc",
    )
    RIGHT = (
        "z asc", "ab desc", "a desc", "asc asc", "desc desc", "year asc", "abcdefghijkl desc",
    )

    def assert_wrong(self, at, parts):
        self.assert_raises(InvalidText, {"at": at}, Rule.read, CATALOG, ", ".join(parts))

    # A wrong part that itself holds a cut stands for two parts, the first of them wrong.
    def test_a_wrong_part_at_each_place(self):
        for many in range(8):
            for at in range(many + 1):
                for part in self.WRONG:
                    if many == 0 and part == "":
                        continue
                    parts = [*self.RIGHT[:at], part, *self.RIGHT[at:many]]
                    self.assert_wrong(at + 1, parts)

    def test_several_wrong_parts(self):
        for first, second in itertools.product(self.WRONG, repeat=2):
            self.assert_wrong(1, [first, second])
            self.assert_wrong(2, [self.RIGHT[0], first, self.RIGHT[1], second])

    def test_a_name_twice(self):
        for at in range(1, 8):
            for earlier in range(at):
                name = self.RIGHT[earlier].split(" ")[0]
                for word in ("asc", "desc"):
                    again = f"{name} {word}"
                    parts = [*self.RIGHT[:at], again, *self.RIGHT[at:]]
                    self.assert_wrong(at + 1, parts)
                    self.assert_wrong(at + 1, [*parts, ""])
                    self.assert_wrong(at, [*self.RIGHT[:at - 1], "wrong", again])

    def test_a_name_that_only_looks_the_same(self):
        self.assert_same(Rule.read(CATALOG, "a asc, ab asc").terms, ((2, 1), (7, 1)))
        self.assert_same(Rule.read(CATALOG, "ab asc, a asc").terms, ((7, 1), (2, 1)))

    def test_whole_texts(self):
        wrong = {
            " ": 1, "  ": 1, ",": 1, ", ": 1, ", , ": 1, "height asc,": 1, "height asc, ": 2,
            "height asc ,year asc": 1, "height asc , year asc": 1, "height asc,  year asc": 2,
            "height asc,year asc": 1, "height asc,, year asc": 1, "height asc, , year asc": 2,
            ", height asc": 1, " height asc": 1, "height asc, year asc ": 2,
            "height asc, year asc,": 2, "height asc, year asc, ": 3, "\n": 1,
            "height asc\nyear asc": 1, "height asc,\nyear asc": 1, "height asc, \nyear asc": 2,
            "height, asc": 1, "height asc, year": 2, "height asc, year asc, z": 3,
            "height asc, height asc": 2, "height asc, year asc, height desc": 3,
            "height asc; year asc": 1, "height asc year asc": 1, "(0, 1)": 1,
        }
        for text, at in wrong.items():
            with self.subTest(text=text):
                self.assert_raises(InvalidText, {"at": at}, Rule.read, CATALOG, text)

    def test_many_parts(self):
        parts = [*self.RIGHT, "height asc", *["year asc"] * 50]
        self.assert_wrong(9, parts)


if __name__ == "__main__":
    unittest.main()
