"""Point [9]: what is wrong first in a program."""

import unittest

from sameontrees.checks import check, checked
from sameontrees.errors import BadProgram, NotChecked
from tests.common import BINARY, MIXED, NEVER, raised, spoilt

ZERO = ("num", (0, 1))
L = ("call", "f", "l")
R = ("call", "f", "r")
N = ("field", "n")


def function(name, node, leaf=ZERO, names=("l", "n", "r")):
    """A function over BINARY with these expressions."""
    return (name, "Tree", (("Leaf", (), leaf), ("Node", names, node)))


def program(*functions):
    """A program over BINARY."""
    return (BINARY, functions)


def with_node(e):
    """A program with one function f with this expression for Node."""
    return program(function("f", e))


class Judged(unittest.TestCase):

    def judged(self, thing, what):
        self.assertEqual(check(thing), what)
        if what is None:
            self.assertIsNone(checked(thing))
        else:
            self.assertEqual(raised(NotChecked, checked, thing).what, what)


class Right(Judged):

    def test_programs_that_are_right(self):
        self.judged((BINARY, ()), None)
        self.judged(program(function("f", ZERO)), None)
        self.judged(with_node(("sum", (L, N, R))), None)
        self.judged(with_node(("product", (L, N, R))), None)
        self.judged(program(function("g", L), function("f", ("call", "g", "r"))), None)

    def test_a_kind_without_fields_needs_no_names(self):
        kinds = (("Dot", (("One", ()), ("Two", ()))),)
        cases = (("One", (), ZERO), ("Two", (), ("sum", (ZERO, ZERO))))
        self.judged((kinds, (("f", "Dot", cases),)), None)

    def test_functions_of_several_kinds(self):
        functions = (
            ("len", "List", (("End", (), ZERO), ("Item", ("n", "i", "l"), ("sum", (
                ("field", "n"), ("product", (("call", "all", "i"), ("call", "len", "l")))))))),
            ("all", "Item", (("One", ("n",), ("field", "n")),
                             ("Pair", ("a", "b"), ("call", "all", "b")),
                             ("Box", ("b",), ("call", "len", "b")))),
        )
        self.judged((MIXED, functions), None)

    def test_names_of_functions_fields_and_reads_may_be_equal(self):
        node = ("product", (("call", "n", "n"), ("field", "f"), ("call", "f", "l")))
        first = ("f", "Tree", (("Leaf", (), ZERO), ("Node", ("n", "f", "l"), node)))
        self.judged(program(first, function("n", ZERO)), None)


class Heads(Judged):

    def test_double(self):
        self.judged(program(function("f", ZERO), function("f", ZERO)), ("double", "f"))
        self.judged(program(function("f", ZERO), function("g", ZERO), function("f", ZERO)),
                    ("double", "f"))

    def test_kind(self):
        self.judged(program(("f", "Leaf", ())), ("kind", "f"))
        self.judged(program(("f", "List", function("f", ZERO)[2])), ("kind", "f"))

    def test_makers(self):
        right = function("f", ZERO)[2]
        more = right + (("Leaf", (), ZERO),)
        for cases in ((), right[:1], right[1:], right[::-1], more, right[:1] * 2,
                      (right[0], ("Twig", *right[1][1:]))):
            self.judged(program(("f", "Tree", cases)), ("makers", "f"))

    def test_their_order_in_one_head(self):
        self.judged(program(function("f", ZERO), ("f", "None", ())), ("double", "f"))
        self.judged(program(("f", "None", ()), ("f", "Tree", ())), ("kind", "f"))
        self.judged(program(("g", "Tree", ()), ("f", "None", ())), ("makers", "g"))

    def test_heads_are_ahead_of_cases(self):
        wrong = function("f", ("field", "x"))
        self.judged(program(wrong), ("name", "f"))
        self.judged(program(wrong, function("g", ZERO), ("g", "Tree", ())), ("double", "g"))
        self.judged(program(wrong, ("g", "None", ())), ("kind", "g"))
        self.judged(program(wrong, ("g", "Tree", ())), ("makers", "g"))


class Cases(Judged):

    def test_count(self):
        for names in ((), ("l",), ("l", "n"), ("l", "n", "r", "x"), ("l", "l"), ("l",) * 4):
            self.judged(program(function("f", ("field", "x"), names=names)), ("count", "f"))
        leaf = (("Leaf", ("x",), ZERO), function("f", ZERO)[2][1])
        self.judged(program(("f", "Tree", leaf)), ("count", "f"))

    def test_double_in_a_case(self):
        for names in (("l", "l", "r"), ("l", "n", "l"), ("l", "n", "n"), ("l", "l", "l")):
            self.judged(program(function("f", ("field", "x"), names=names)), ("double", "f"))

    def test_fields(self):
        self.judged(with_node(N), None)
        self.judged(with_node(("field", "x")), ("name", "f"))
        self.judged(with_node(("field", "f")), ("name", "f"))
        self.judged(with_node(("field", "l")), ("field", "f"))
        self.judged(with_node(("field", "r")), ("field", "f"))
        self.judged(program(function("f", ZERO, leaf=N)), ("name", "f"))

    def test_calls(self):
        self.judged(with_node(("call", "f", "x")), ("name", "f"))
        self.judged(with_node(("call", "g", "l")), ("name", "f"))
        self.judged(with_node(("call", "g", "n")), ("name", "f"))
        self.judged(with_node(("call", "g", "x")), ("name", "f"))
        self.judged(with_node(("call", "f", "n")), ("field", "f"))

    def test_calls_of_a_function_of_another_kind(self):
        item = (("One", ("n",), ZERO), ("Pair", ("a", "b"), ZERO), ("Box", ("l",), ZERO))
        for called, field, what in (("g", "i", None), ("g", "l", "field"), ("f", "l", None),
                                    ("f", "i", "field"), ("f", "n", "field"), ("h", "i", "name")):
            cases = (("End", (), ZERO), ("Item", ("n", "i", "l"), ("call", called, field)))
            told = check((MIXED, (("f", "List", cases), ("g", "Item", item))))
            self.assertEqual(told, what and (what, "f"))

    def test_a_sum_may_use_a_field_in_several_parts(self):
        self.judged(with_node(("sum", (N, N, L, L))), None)
        self.judged(with_node(("sum", (("product", (N, L)), ("product", (L, N, R))))), None)

    def test_a_product_uses_each_field_in_one_part(self):
        self.judged(with_node(("product", (N, N))), ("twice", "f"))
        self.judged(with_node(("product", (L, N, L))), ("twice", "f"))
        self.judged(with_node(("product", (ZERO, ZERO, ZERO))), None)
        self.judged(with_node(("product", (("sum", (N, N)), L))), None)
        self.judged(with_node(("product", (("sum", (N, L)), ("sum", (R, L))))), ("twice", "f"))
        self.judged(with_node(("product", (("sum", (N, L)), ("sum", (R, ZERO))))), None)

    def test_several_number_fields_are_unlike_fields(self):
        kinds = (("P", (("Two", ("number", "number")),)),)
        a, b = ("field", "a"), ("field", "b")
        for parts, what in (((a, b), None), ((b, a), None), ((a, ("sum", (b, b))), None),
                            ((a, a), ("twice", "f")), ((b, a, b), ("twice", "f")),
                            ((("sum", (a, b)), b), ("twice", "f"))):
            self.judged((kinds, (("f", "P", (("Two", ("a", "b"), ("product", parts)),)),)), what)

    def test_further_in(self):
        deep = N
        for _ in range(8):
            deep = ("sum", (ZERO, ("product", (ZERO, deep))))
        self.judged(with_node(deep), None)
        self.judged(with_node(("product", (deep, L, R))), None)
        self.judged(with_node(("product", (L, R, deep, N))), ("twice", "f"))
        self.judged(with_node(("sum", (L, ("product", (deep, N))))), ("twice", "f"))
        self.judged(with_node(("sum", (ZERO, ("product", (R, ("product", (N, L)), ("sum", (
            ZERO, ("product", (R, ZERO))))))))), ("twice", "f"))

    def test_a_call_and_a_field_use_the_same_field(self):
        g = function("g", ZERO)
        for one in (L, ("call", "g", "l")):
            for other in (L, ("call", "g", "l")):
                self.judged(program(function("f", ("product", (one, other))), g), ("twice", "f"))

    def test_what_is_first_in_the_text(self):
        name, field = ("field", "x"), ("field", "l")
        twice = ("product", (N, N))
        for word in ("sum", "product"):
            self.judged(with_node((word, (name, field))), ("name", "f"))
            self.judged(with_node((word, (field, name))), ("field", "f"))
            self.judged(with_node((word, (twice, name))), ("twice", "f"))
            self.judged(with_node((word, (ZERO, ("sum", (ZERO, field)), twice))), ("field", "f"))
        self.judged(with_node(("product", (N, N, name))), ("name", "f"))
        self.judged(with_node(("product", (N, N, field))), ("field", "f"))
        self.judged(with_node(("product", (N, N, ("product", (L, L))))), ("twice", "f"))

    def test_the_first_case_of_the_first_function(self):
        first = function("f", ("field", "x"), leaf=("call", "g", "x"))
        self.judged(program(first, function("g", ("field", "l"))), ("name", "f"))
        self.judged(program(function("f", ("field", "l"), leaf=N)), ("name", "f"))
        self.judged(program(function("f", ("product", (N, N))), function("g", N, leaf=N)),
                    ("twice", "f"))
        self.judged(program(function("f", N), function("g", ZERO, names=()), function("h", L, N)),
                    ("count", "g"))
        self.judged(program(function("f", N), function("g", ZERO), function("h", L, N)),
                    ("name", "h"))


class Wrong(unittest.TestCase):

    def test_what_is_no_program(self):
        right = with_node(("sum", (L, N, R)))
        for thing in (*NEVER, *spoilt(right), ((), ()), BINARY, (BINARY,)):
            raised(BadProgram, check, thing)
            raised(BadProgram, checked, thing)


if __name__ == "__main__":
    unittest.main()
