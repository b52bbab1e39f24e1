"""Points [4] and [5]: names, kinds, and trees by their words."""

import unittest

from sameontrees.basics import is_high, is_low, is_name, is_ratio
from sameontrees.errors import BadKind
from sameontrees.trees import is_kinds, is_tree
from tests.common import BINARY, CHAIN, MIXED, NEVER, chain, raised, spoilt


def one_kind(name, makers=(("Leaf", ()),)):
    """Kinds with just one kind."""
    return ((name, makers),)


class Names(unittest.TestCase):

    def test_high_and_low_names(self):
        for name in ("T", "Tree", "T1", "TREE", "Z9z9Z9z9Z9", "Abcdefghij"):
            self.assertTrue(is_high(name) and is_name(name) and not is_low(name), name)
        for name in ("t", "tree", "t1", "tREE", "z9z9Z9z9Z9", "abcdefghij", "funs", "num", "sum"):
            self.assertTrue(is_low(name) and is_name(name) and not is_high(name), name)

    def test_what_is_no_name(self):
        wrong = ("", "fun", "kind", "number", "1", "1a", "Abcdefghijk", "abcdefghij1", "a b", "a_b",
                 "a\n", " a", "a ", "-a", "a-", "A.", "(", "_a", "\u00e9", "T\u00e9", "T\u00b2")
        for thing in (*wrong, None, 1, b"a", ("a",), ["a"]):
            self.assertFalse(is_name(thing) or is_low(thing) or is_high(thing), thing)

    def test_names_of_kinds_and_makers(self):
        for name in ("T", "Abcdefghij", "T123456789", "Fun", "Kind", "Number", "FUN"):
            self.assertIs(is_kinds(one_kind(name)), True)
            self.assertIs(is_kinds(one_kind("Tree", ((name, ()),))), True)
        for name in ("", "t", "tree", "Abcdefghijk", "T1234567890", "fun", "kind", "number", "1",
                     "1T", "T_", "T ", " T", "T-", "T\n", None, 1, True, b"T", ("T",), ["T"]):
            self.assertIs(is_kinds(one_kind(name)), False)
            self.assertIs(is_kinds(one_kind("Tree", ((name, ()),))), False)


class Ratios(unittest.TestCase):

    def test_ratios(self):
        for thing in ((0, 1), (1, 1), (-1, 1), (2, 3), (-3, 2), (10 ** 40, 1), (1, 10 ** 40)):
            self.assertIs(is_ratio(thing), True)
        for thing in ((0, 2), (2, 2), (2, 4), (-2, 4), (1, 0), (0, 0), (1, -1), (0, -1), (1,), (),
                      (1, 1, 1), [1, 1], (True, 1), (1, True), (False, 1), ("1", 1), 1, None):
            self.assertIs(is_ratio(thing), False)


class Kinds(unittest.TestCase):

    def test_kinds_of_the_examples(self):
        for kinds in (BINARY, MIXED, CHAIN):
            self.assertIs(is_kinds(kinds), True)

    def test_one_to_six_kinds(self):
        for many in range(9):
            kinds = tuple((f"K{k}", ((f"M{k}", ()),)) for k in range(many))
            self.assertIs(is_kinds(kinds), 1 <= many <= 6)

    def test_one_to_six_makers(self):
        for many in range(9):
            kinds = one_kind("Tree", tuple((f"M{k}", ()) for k in range(many)))
            self.assertIs(is_kinds(kinds), 1 <= many <= 6)

    def test_thirty_six_makers(self):
        kinds = tuple((f"K{k}", tuple((f"M{k}x{m}", (f"K{5 - k}",) * 4) for m in range(6)))
                      for k in range(6))
        self.assertIs(is_kinds(kinds), True)

    def test_none_to_four_fields(self):
        for field in ("Tree", "number"):
            for many in range(7):
                kinds = one_kind("Tree", (("Leaf", (field,) * many),))
                self.assertIs(is_kinds(kinds), many <= 4)

    def test_double_names(self):
        leaf = (("Leaf", ()),)
        self.assertIs(is_kinds((("A", leaf), ("A", (("Other", ()),)))), False)
        self.assertIs(is_kinds((("A", leaf), ("B", leaf))), False)
        self.assertIs(is_kinds(one_kind("A", leaf + leaf)), False)
        self.assertIs(is_kinds(one_kind("A", leaf + (("Leaf", ("A",)),))), False)
        self.assertIs(is_kinds((("A", (("B", ()),)), ("B", (("A", ()),)))), True)
        self.assertIs(is_kinds(one_kind("A", (("A", ("A",)),))), True)

    def test_fields_name_kinds_that_are_there(self):
        kinds = (("A", (("M", ("B",)),)), ("B", (("N", ("A", "number")),)))
        self.assertIs(is_kinds(kinds), True)
        for field in ("C", "M", "N", "a", "Number", "", "fun", None, 0, ("A",), ["A"], b"A"):
            self.assertIs(is_kinds((("A", (("M", (field,)),)), kinds[1])), False)

    def test_a_kind_may_have_no_tree(self):
        self.assertIs(is_kinds(one_kind("A", (("M", ("A",)),))), True)

    def test_what_is_no_kinds(self):
        for thing in NEVER:
            self.assertIs(is_kinds(thing), False)
        for kinds in (BINARY, MIXED):
            for thing in spoilt(kinds):
                self.assertIs(is_kinds(thing), False)

    def test_pairs_of_another_length(self):
        leaf = ("Leaf", ())
        for thing in ((("Tree",),), (("Tree", (leaf,), ()),), (("Tree", (("Leaf",),)),),
                      (("Tree", (("Leaf", (), ()),)),), (("Tree", leaf),), ("Tree", (leaf,))):
            self.assertIs(is_kinds(thing), False)


class Trees(unittest.TestCase):

    def test_trees_of_each_kind(self):
        self.assertIs(is_tree(BINARY, "Tree", ("Leaf",)), True)
        self.assertIs(is_tree(BINARY, "Tree", ("Node", "Leaf", 5, "Leaf")), True)
        item = ("Pair", "One", 1, "Box", "Item", 2, "One", 3, "End")
        self.assertIs(is_tree(MIXED, "Item", item), True)
        self.assertIs(is_tree(MIXED, "List", item), False)
        self.assertIs(is_tree(MIXED, "List", ("Item", 4) + item + ("End",)), True)
        self.assertIs(is_tree(MIXED, "Item", ("Item", 4) + item + ("End",)), False)

    def test_kind_is_a_kinds_name(self):
        for kind in ("Leaf", "Node", "tree", "number", "", None, 0, True, ("Tree",), ["Tree"], b"Tree"):
            raised(BadKind, is_tree, BINARY, kind, ("Leaf",))
            raised(BadKind, is_tree, BINARY, kind, None)

    def test_words_left_out_doubled_or_moved(self):
        words = ("Node", "Node", "Leaf", 2, "Leaf", 5, "Node", "Leaf", 7, "Leaf")
        self.assertIs(is_tree(BINARY, "Tree", words), True)
        for place in range(len(words)):
            less = words[:place] + words[place + 1:]
            self.assertIs(is_tree(BINARY, "Tree", less), False)
            twice = words[:place] + (words[place],) + words[place:]
            self.assertIs(is_tree(BINARY, "Tree", twice), False)
        self.assertIs(is_tree(BINARY, "Tree", words[1:] + words[:1]), False)
        self.assertIs(is_tree(BINARY, "Tree", words[-1:] + words[:-1]), False)
        self.assertIs(is_tree(BINARY, "Tree", words[::-1]), False)
        self.assertIs(is_tree(BINARY, "Tree", words + words), False)

    def test_words_that_are_none(self):
        for word in (None, True, False, "5", "Tree", "number", "leaf", "", (5,), [5], b"Leaf", ()):
            self.assertIs(is_tree(BINARY, "Tree", ("Node", "Leaf", word, "Leaf")), False)
            self.assertIs(is_tree(BINARY, "Tree", ("Node", word, 5, "Leaf")), False)
            self.assertIs(is_tree(BINARY, "Tree", (word,)), False)
        self.assertIs(is_tree(BINARY, "Tree", ("Node", "Leaf", "Leaf", "Leaf")), False)
        self.assertIs(is_tree(BINARY, "Tree", ("Node", 5, 5, "Leaf")), False)
        self.assertIs(is_tree(MIXED, "List", ("Item", 1, "End", "End")), False)

    def test_great_integers(self):
        for number in (0, 1, -1, 10 ** 9 + 1, -10 ** 9 - 1, 10 ** 5000, -10 ** 5000):
            self.assertIs(is_tree(BINARY, "Tree", ("Node", "Leaf", number, "Leaf")), True)

    def test_four_hundred_words(self):
        for depth in (1, 2, 399, 400, 401, 402, 1000):
            self.assertIs(is_tree(CHAIN, "Nat", chain(depth)), depth <= 400)
        for many in (198, 199, 200):
            self.assertIs(is_tree(CHAIN, "Nat", ("Mark", 3) * many + ("Zero",)), many < 200)
        deep = ("Node", "Leaf", 1) * 133 + ("Leaf",)
        self.assertEqual(len(deep), 400)
        self.assertIs(is_tree(BINARY, "Tree", deep), True)
        self.assertIs(is_tree(BINARY, "Tree", ("Node", "Leaf", 1) + deep), False)

    def test_a_tree_399_makers_deep(self):
        self.assertIs(is_tree(CHAIN, "Nat", chain(398) + ("Zero",)), False)
        self.assertIs(is_tree(CHAIN, "Nat", ("Next",) * 398 + ("Zero",)), True)
        self.assertIs(is_tree(CHAIN, "Nat", ("Next",) * 397 + ("Mark", 1, "Zero")), True)

    def test_what_is_no_tree(self):
        words = ("Node", "Leaf", 1, "Leaf")
        for thing in (*NEVER, *spoilt(words)):
            self.assertIs(is_tree(BINARY, "Tree", thing), False)


if __name__ == "__main__":
    unittest.main()
