"""Point [6]: rows, their sizes and their words."""

import unittest

from sameontrees.errors import BadKinds, BadRows
from sameontrees.trees import is_rows, is_tree, sizes, words_of
from tests.common import BINARY, CHAIN, MIXED, NEVER, chain_rows, raised, spoilt

# Each of these rows has twice as many makers as the one ahead, and one.
DOUBLING = (("Leaf", ()),) + tuple(("Node", (k, 0, k)) for k in range(95))

HALVES = (("T", (("L", ()), ("One", ("T",)), ("Both", ("T", "T")), ("Mark", ("number", "T")))),)


def tree_with(many):
    """Rows of HALVES, and their words, of a tree with so many words."""
    if many == 1:
        return (("L", ()),), ("L",)
    if many % 2 == 0:
        rows, words = tree_with(many - 1)
        return rows + (("One", (len(rows) - 1,)),), ("One",) + words
    rows, words = tree_with(many // 2)
    return rows + (("Both", (len(rows) - 1, len(rows) - 1)),), ("Both",) + words + words


class Rows(unittest.TestCase):

    def test_one_to_ninety_six_rows(self):
        for many in (1, 2, 95, 96, 97, 98, 200):
            self.assertIs(is_rows(CHAIN, chain_rows(many)), many <= 96)
            self.assertIs(is_rows(CHAIN, (("Zero", ()),) * many), many <= 96)
        self.assertIs(is_rows(CHAIN, ()), False)

    def test_entries_lead_to_rows_ahead(self):
        for entry in range(-3, 5):
            rows = (("Leaf", ()), ("Node", (0, 0, 0)), ("Node", (0, 7, entry)), ("Leaf", ()))
            self.assertIs(is_rows(BINARY, rows), entry in (0, 1))
            rows = (("Leaf", ()), ("Node", (0, 0, 0)), ("Node", (entry, 7, 0)), ("Leaf", ()))
            self.assertIs(is_rows(BINARY, rows), entry in (0, 1))
        self.assertIs(is_rows(CHAIN, (("Next", (0,)),)), False)
        self.assertIs(is_rows(CHAIN, (("Next", (-1,)), ("Zero", ()))), False)

    def test_entries_lead_to_rows_of_the_fields_kind(self):
        ahead = (("End", ()), ("One", (5,)))
        self.assertIs(is_rows(MIXED, ahead + (("Item", (3, 1, 0)),)), True)
        for entries in ((3, 0, 1), (3, 0, 0), (3, 1, 1)):
            self.assertIs(is_rows(MIXED, ahead + (("Item", entries),)), False)
        self.assertIs(is_rows(MIXED, ahead + (("Pair", (1, 1)), ("Pair", (1, 2)))), True)
        self.assertIs(is_rows(MIXED, ahead + (("Pair", (0, 1)),)), False)
        self.assertIs(is_rows(MIXED, ahead + (("Box", (0,)), ("Pair", (2, 1)))), True)

    def test_number_fields_have_any_integer(self):
        for number in (0, -1, 96, 10 ** 5000, -10 ** 5000):
            self.assertIs(is_rows(MIXED, (("One", (number,)),)), True)
        for thing in (True, False, None, "0", (0,), "End"):
            self.assertIs(is_rows(MIXED, (("One", (thing,)),)), False)

    def test_each_field_has_just_one_entry(self):
        for many in range(6):
            rows = (("Leaf", ()), ("Node", (0,) * many))
            self.assertIs(is_rows(BINARY, rows), many == 3)
            self.assertIs(is_rows(BINARY, (("Leaf", (0,) * many),)), many == 0)

    def test_makers_that_are_none(self):
        for maker in ("Tree", "number", "leaf", "", None, 0, ("Leaf",), ["Leaf"], b"Leaf"):
            self.assertIs(is_rows(BINARY, ((maker, ()),)), False)
        for thing in ((("Leaf",),), (("Leaf", (), ()),), ("Leaf", ()), ((),), ("Leaf",)):
            self.assertIs(is_rows(BINARY, thing), False)

    def test_equal_rows_and_rows_that_nothing_leads_to(self):
        rows = (("Leaf", ()), ("Leaf", ()), ("Node", (0, 1, 1)), ("Leaf", ()))
        self.assertIs(is_rows(BINARY, rows), True)
        self.assertEqual(words_of(BINARY, rows), ("Leaf",))
        self.assertEqual(sizes(BINARY, rows), (1, 1, 3, 1))

    def test_what_is_no_rows(self):
        rows = (("Leaf", ()), ("Node", (0, 1, 0)))
        for thing in (*NEVER, *spoilt(rows)):
            self.assertIs(is_rows(BINARY, thing), False)
            raised(BadRows, sizes, BINARY, thing)
            raised(BadRows, words_of, BINARY, thing)
            raised(BadKinds, sizes, thing, thing)
            raised(BadKinds, words_of, thing, thing)
        raised(BadRows, sizes, CHAIN, chain_rows(97))
        raised(BadRows, words_of, CHAIN, chain_rows(97))


class Sizes(unittest.TestCase):

    def test_sizes_of_each_row(self):
        self.assertEqual(sizes(BINARY, (("Leaf", ()), ("Node", (0, 5, 0)))), (1, 3))
        rows = (("End", ()), ("One", (5,)), ("Pair", (1, 1)), ("Item", (9, 2, 0)), ("Box", (3,)))
        self.assertEqual(sizes(MIXED, rows), (1, 1, 3, 5, 6))
        self.assertEqual(sizes(CHAIN, chain_rows(96)), tuple(range(1, 97)))

    def test_numbers_do_not_count(self):
        self.assertEqual(sizes(MIXED, (("One", (10 ** 50,)), ("Pair", (0, 0)))), (1, 3))

    def test_sizes_with_many_digits(self):
        self.assertEqual(sizes(BINARY, DOUBLING), tuple(2 ** (k + 1) - 1 for k in range(96)))
        kinds = (("T", (("L", ()), ("N", ("T",) * 4))),)
        rows = (("L", ()),) + tuple(("N", (k,) * 4) for k in range(95))
        expected = [1]
        for _ in range(95):
            expected.append(1 + 4 * expected[-1])
        self.assertEqual(sizes(kinds, rows), tuple(expected))


class WordsOfRows(unittest.TestCase):

    def test_words_of_the_last_row(self):
        rows = (("Leaf", ()), ("Node", (0, 5, 0)), ("Node", (1, -2, 0)))
        self.assertEqual(words_of(BINARY, rows[:1]), ("Leaf",))
        self.assertEqual(words_of(BINARY, rows[:2]), ("Node", "Leaf", 5, "Leaf"))
        self.assertEqual(words_of(BINARY, rows),
                         ("Node", "Node", "Leaf", 5, "Leaf", -2, "Leaf"))
        rows = (("End", ()), ("One", (5,)), ("Pair", (1, 1)), ("Item", (9, 2, 0)), ("Box", (3,)))
        self.assertEqual(words_of(MIXED, rows),
                         ("Box", "Item", 9, "Pair", "One", 5, "One", 5, "End"))

    def test_four_thousand_words(self):
        for many in (1, 2, 3, 399, 400, 401, 3998, 3999, 4000, 4001, 4002, 4003, 8000):
            rows, words = tree_with(many)
            self.assertEqual(len(words), many)
            self.assertEqual(words_of(HALVES, rows), words if many <= 4000 else None)

    def test_integers_count_as_words(self):
        for many in (3997, 3998, 3999, 4000):
            rows, words = tree_with(many)
            rows += (("Mark", (10 ** 30, len(rows) - 1)),)
            expected = ("Mark", 10 ** 30) + words
            self.assertEqual(words_of(HALVES, rows), expected if many <= 3998 else None)

    def test_a_part_with_too_many_words(self):
        rows, _ = tree_with(4001)
        rows += (("One", (len(rows) - 1,)), ("Both", (0, len(rows))))
        self.assertIsNone(words_of(HALVES, rows))
        self.assertIsNone(words_of(HALVES, rows[:-1]))

    def test_words_without_number(self):
        self.assertIsNone(words_of(BINARY, DOUBLING))
        # What the tree does not lead to does not count.
        self.assertEqual(words_of(BINARY, DOUBLING[:95] + (("Node", (1, 3, 0)),)),
                         ("Node", "Node", "Leaf", 0, "Leaf", 3, "Leaf"))

    def test_more_words_than_a_tree_by_words_may_have(self):
        words = words_of(BINARY, DOUBLING[:8])
        self.assertEqual(len(words), 2 ** 8 + 2 ** 7 - 2)
        self.assertIs(is_tree(BINARY, "Tree", words), True)
        words = words_of(BINARY, DOUBLING[:9])
        self.assertEqual(len(words), 2 ** 9 + 2 ** 8 - 2)
        self.assertIs(is_tree(BINARY, "Tree", words), False)


if __name__ == "__main__":
    unittest.main()
