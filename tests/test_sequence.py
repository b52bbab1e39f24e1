"""Point [7]: the sequence of trees, and the rows of a tree."""

import functools
import itertools
import unittest

from sameontrees.errors import BadKind, BadKinds, BadTree, TooGreat
from sameontrees.trees import ahead, is_rows, is_tree, rows_of, sizes, words_of
from tests.common import BINARY, CHAIN, MIXED, NEVER, chain, chain_rows, raised, spoilt

NUMBERS = (0, 1, -1, 2, -2)


@functools.cache
def trees_of(kinds, kind, size):
    """All trees of the kind and size, nested, with some numbers."""
    found = []
    for maker, fields in dict(kinds)[kind]:
        inner = [place for place, field in enumerate(fields) if field != "number"]
        for shares in itertools.product(range(1, size), repeat=len(inner)):
            if sum(shares) != size - 1:
                continue
            choices = [NUMBERS] * len(fields)
            for place, share in zip(inner, shares):
                choices[place] = trees_of(kinds, fields[place], share)
            found.extend((maker, *entries) for entries in itertools.product(*choices))
    return tuple(found)


def words_of_nested(tree):
    """The words of a nested tree."""
    words = []
    for entry in tree:
        words.extend(words_of_nested(entry) if isinstance(entry, tuple) else [entry])
    return tuple(words)


def size_of(tree):
    """The size of a nested tree."""
    return 1 + sum(size_of(entry) for entry in tree[1:] if isinstance(entry, tuple))


def makers_in_order(kinds):
    """The names of the makers of all kinds."""
    return [maker for _, makers in kinds for maker, _ in makers]


def is_ahead(kinds, one, other):
    """Whether a nested tree is ahead of another one of its kind, field by field."""
    if size_of(one) != size_of(other):
        return size_of(one) < size_of(other)
    return first_unlike(kinds, one, other)


def first_unlike(kinds, one, other):
    """The same, whatever the sizes."""
    order = makers_in_order(kinds)
    if one[0] != other[0]:
        return order.index(one[0]) < order.index(other[0])
    for left, right in zip(one[1:], other[1:]):
        if left != right:
            if isinstance(left, tuple):
                return first_unlike(kinds, left, right)
            return NUMBERS.index(left) < NUMBERS.index(right)
    return False


class Ahead(unittest.TestCase):

    def check(self, kinds, kind, most, few=10 ** 9):
        trees = [tree for size in range(1, most + 1) for tree in trees_of(kinds, kind, size)]
        step = max(1, len(trees) // few)
        for one in trees[::step]:
            for other in trees[::step]:
                told = ahead(kinds, kind, words_of_nested(one), words_of_nested(other))
                self.assertIs(told, is_ahead(kinds, one, other), (one, other))

    def test_all_small_trees(self):
        self.check(BINARY, "Tree", 3)
        self.check(CHAIN, "Nat", 3, 80)
        self.check(MIXED, "List", 4, 100)
        self.check(MIXED, "Item", 4, 100)

    def test_the_order_of_integers(self):
        numbers = [0, 1, -1, 2, -2, 3, -3, 10, -10, 11, 10 ** 30, -10 ** 30, 10 ** 30 + 1]
        for left, one in enumerate(numbers):
            for right, other in enumerate(numbers):
                told = ahead(MIXED, "Item", ("One", one), ("One", other))
                self.assertIs(told, left < right)

    def test_the_smaller_one_first(self):
        self.assertIs(ahead(BINARY, "Tree", ("Leaf",), ("Node", "Leaf", 0, "Leaf")), True)
        self.assertIs(ahead(BINARY, "Tree", ("Node", "Leaf", 0, "Leaf"), ("Leaf",)), False)
        # The later maker, but the smaller tree; integers do not count.
        self.assertIs(ahead(MIXED, "Item", ("Box", "End"), ("Pair", "One", 0, "One", 0)), True)
        self.assertIs(ahead(MIXED, "Item", ("One", 10 ** 9), ("Box", "End")), True)
        self.assertIs(ahead(CHAIN, "Nat", ("Mark", 9, "Zero"), ("Next", "Next", "Zero")), True)
        self.assertIs(ahead(CHAIN, "Nat", ("Next", "Next", "Zero"), ("Mark", 9, "Zero")), False)

    def test_the_first_words_that_differ(self):
        one = ("Node", "Leaf", 5, "Node", "Leaf", 0, "Leaf")
        other = ("Node", "Node", "Leaf", 0, "Leaf", 0, "Leaf")
        self.assertIs(ahead(BINARY, "Tree", one, other), True)
        self.assertIs(ahead(BINARY, "Tree", other, one), False)
        one = ("Node", "Leaf", 1, "Node", "Leaf", -9, "Leaf")
        other = ("Node", "Leaf", -1, "Node", "Leaf", 0, "Leaf")
        self.assertIs(ahead(BINARY, "Tree", one, other), True)
        self.assertIs(ahead(BINARY, "Tree", other, one), False)

    def test_makers_stand_by_their_index_and_not_by_their_names(self):
        kinds = (("T", (("Z", ()), ("M", ()), ("A", ()))),)
        order = (("Z",), ("M",), ("A",))
        for left, right in itertools.product(range(3), repeat=2):
            self.assertIs(ahead(kinds, "T", order[left], order[right]), left < right)

    def test_no_tree_is_ahead_of_itself(self):
        for words in (("Leaf",), ("Node", "Leaf", 5, "Leaf")):
            self.assertIs(ahead(BINARY, "Tree", words, words), False)

    def test_long_trees(self):
        self.assertIs(ahead(CHAIN, "Nat", chain(399), chain(400)), True)
        self.assertIs(ahead(CHAIN, "Nat", chain(400), chain(399)), False)
        one = ("Next",) * 397 + ("Mark", -7, "Zero")
        other = ("Next",) * 397 + ("Mark", 8, "Zero")
        self.assertIs(ahead(CHAIN, "Nat", one, other), True)
        self.assertIs(ahead(CHAIN, "Nat", other, one), False)

    def test_a_part_exchanged_for_one_ahead(self):
        """The last two sentences of point [17]."""
        parts = trees_of(MIXED, "Item", 1) + trees_of(MIXED, "Item", 2)
        for left, right in itertools.product(parts, repeat=2):
            for form in (lambda part: ("Pair", ("One", 1), part), lambda part: ("Pair", part, part),
                         lambda part: ("Box", ("Item", -2, part, ("End",)))):
                one, other = words_of_nested(form(left)), words_of_nested(form(right))
                before = ahead(MIXED, "Item", words_of_nested(left), words_of_nested(right))
                self.assertIs(ahead(MIXED, "Item", one, other), before)

    def test_wrong_arguments(self):
        words = ("Node", "Leaf", 5, "Leaf")
        for thing in (*NEVER, *spoilt(words), ("Node", "Leaf", 5)):
            raised(BadTree, ahead, BINARY, "Tree", thing, words)
            raised(BadTree, ahead, BINARY, "Tree", words, thing)
        raised(BadTree, ahead, CHAIN, "Nat", chain(401), chain(2))
        raised(BadTree, ahead, CHAIN, "Nat", chain(2), chain(401))
        raised(BadKind, ahead, BINARY, "Leaf", None, None)
        raised(BadKinds, ahead, None, None, None, None)


def parts_of(tree):
    """The nested tree and all of its parts, each once."""
    found = {tree}
    for entry in tree[1:]:
        if isinstance(entry, tuple):
            found |= parts_of(entry)
    return found


def kind_of(kinds, tree):
    """The index of the nested tree's kind."""
    for place, (_, makers) in enumerate(kinds):
        if tree[0] in dict(makers):
            return place
    raise AssertionError(tree)


def expected_rows(kinds, tree):
    """The rows of a nested tree."""
    def compare(one, other):
        left = (size_of(one), kind_of(kinds, one))
        right = (size_of(other), kind_of(kinds, other))
        if left != right:
            return -1 if left < right else 1
        return -1 if is_ahead(kinds, one, other) else 1

    order = sorted(parts_of(tree), key=functools.cmp_to_key(compare))
    return tuple((part[0], tuple(order.index(entry) if isinstance(entry, tuple) else entry
                                 for entry in part[1:])) for part in order)


class RowsOf(unittest.TestCase):

    def check(self, kinds, kind, tree):
        words = words_of_nested(tree)
        rows = rows_of(kinds, kind, words)
        self.assertEqual(rows, expected_rows(kinds, tree))
        self.assertIs(is_rows(kinds, rows), True)
        self.assertEqual(words_of(kinds, rows), words)
        self.assertEqual(list(sizes(kinds, rows)), sorted(sizes(kinds, rows)))

    def test_the_example(self):
        words = ("Node", "Leaf", 5, "Leaf")
        self.assertIs(is_tree(BINARY, "Tree", words), True)
        rows = rows_of(BINARY, "Tree", words)
        self.assertEqual(rows, (("Leaf", ()), ("Node", (0, 5, 0))))
        self.assertEqual(sizes(BINARY, rows), (1, 3))

    def test_all_small_trees(self):
        for kinds, kind, most in ((BINARY, "Tree", 3), (CHAIN, "Nat", 3), (MIXED, "List", 4)):
            for size in range(1, most + 1):
                for tree in trees_of(kinds, kind, size):
                    self.check(kinds, kind, tree)

    def test_greater_trees(self):
        one = ("Pair", ("Box", ("Item", -1, ("One", 2), ("End",))), ("One", 2))
        self.check(MIXED, "Item", ("Pair", one, ("Pair", ("One", -2), one)))
        self.check(MIXED, "Item", ("Pair", ("Pair", ("Box", ("End",)), ("One", 1)),
                                   ("Pair", ("One", 1), ("Box", ("End",)))))
        tree = ("Leaf",)
        for number in (0, -1, 1, 2, -2, 0):
            tree = ("Node", tree, number, ("Node", ("Leaf",), -number, tree))
        words = words_of_nested(tree[1])
        self.check(BINARY, "Tree", tree[1])
        self.assertLess(len(rows_of(BINARY, "Tree", words)), len(words) // 4)

    def test_equal_parts_once(self):
        pair = ("Node", "Leaf", 5, "Leaf")
        self.assertEqual(rows_of(BINARY, "Tree", ("Node", *pair, 5, *pair)),
                         (("Leaf", ()), ("Node", (0, 5, 0)), ("Node", (1, 5, 1))))

    def test_kinds_in_their_order_then_the_sequence(self):
        words = ("Pair", "Pair", "One", -1, "One", 1, "Box", "Item", 0, "One", 0, "End")
        self.assertEqual(rows_of(MIXED, "Item", words), (
            ("End", ()), ("One", (0,)), ("One", (1,)), ("One", (-1,)), ("Item", (0, 1, 0)),
            ("Pair", (3, 2)), ("Box", (4,)), ("Pair", (5, 6))))

    def test_ninety_six_parts(self):
        self.assertEqual(rows_of(CHAIN, "Nat", chain(1)), chain_rows(1))
        self.assertEqual(rows_of(CHAIN, "Nat", chain(96)), chain_rows(96))
        for depth in (97, 98, 399, 400):
            raised(TooGreat, rows_of, CHAIN, "Nat", chain(depth))

    def test_many_words_with_few_parts(self):
        words = ("Leaf",)
        for _ in range(7):
            words = ("Node", *words, 1, *words)
        self.assertEqual(len(words), 2 ** 8 - 1 + 2 ** 7 - 1)
        self.assertEqual(len(rows_of(BINARY, "Tree", words)), 8)

    def test_too_great_is_looked_for_behind_the_others(self):
        raised(BadKinds, rows_of, None, "Nat", chain(97))
        raised(BadKind, rows_of, CHAIN, "Zero", chain(97))
        raised(BadTree, rows_of, CHAIN, "Nat", chain(401))
        raised(BadTree, rows_of, CHAIN, "Nat", chain(97) + ("Zero",))


if __name__ == "__main__":
    unittest.main()
