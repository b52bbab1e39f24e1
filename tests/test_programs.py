"""Point [8]: programs, judged by their form alone."""

import unittest

from sameontrees.errors import BadProgram
from sameontrees.programs import is_program, write_program
from tests.common import BINARY, NEVER, raised, spoilt

ZERO = ("num", (0, 1))


def with_functions(functions):
    """A program with these functions."""
    return (BINARY, tuple(functions))


def with_cases(cases):
    """A program with one function that has these cases."""
    return with_functions([("f", "Tree", tuple(cases))])


def with_expressions(*expressions):
    """A program with one function that has a case for each of the expressions."""
    return with_cases(("Leaf", (), e) for e in expressions)


def nested(many, word="sum", inner=ZERO):
    """An expression with a chain of so many in it, the last one being inner."""
    for _ in range(many - 1):
        inner = (word, (ZERO, inner))
    return inner


def counted(many):
    """An expression of just so many in all, 63 or more, in short chains."""
    groups, rest = divmod(many - 1, 61)
    parts = [("sum", (ZERO,) * 60)] * groups
    parts += [ZERO] * rest if rest < 3 else [("sum", (ZERO,) * (rest - 1))]
    return ("sum", tuple(parts))


def count(e):
    """How many expressions are in e."""
    return 1 + sum(count(part) for part in e[1]) if e[0] in ("sum", "product") else 1


class Programs(unittest.TestCase):

    def judged(self, program, right):
        self.assertIs(is_program(program), right)
        if right:
            self.assertIsInstance(write_program(program), str)
        else:
            raised(BadProgram, write_program, program)

    def test_kinds_and_functions(self):
        self.judged((BINARY, ()), True)
        self.judged(((), ()), False)
        self.judged((BINARY,), False)
        self.judged((BINARY, (), ()), False)
        self.judged((BINARY + BINARY, ()), False)
        self.judged((BINARY, (("f", "Tree"),)), False)
        self.judged((BINARY, (("f", "Tree", (), ()),)), False)
        self.judged((BINARY, ("f", "Tree", ())), False)

    def test_what_is_no_program(self):
        program = with_expressions(("sum", (("num", (1, 2)), ("product", (
            ("field", "x"), ("call", "f", "y"))), ZERO)))
        program = (BINARY, program[1] + (("g", "Tree", (("Node", ("l", "n", "r"), ZERO),)),))
        self.judged(program, True)
        for thing in (*NEVER, *spoilt(program)):
            self.judged(thing, False)

    def test_none_to_sixty_functions(self):
        for many in (0, 1, 59, 60, 61, 62, 200):
            self.judged(with_functions([("f", "Tree", ())] * many), many <= 60)
            self.judged(with_functions((f"f{k}", "Tree", ()) for k in range(many)), many <= 60)

    def test_none_to_six_cases(self):
        for many in range(9):
            self.judged(with_cases([("Leaf", (), ZERO)] * many), many <= 6)

    def test_none_to_four_names(self):
        for many in range(7):
            self.judged(with_cases([("Leaf", ("x",) * many, ZERO)]), many <= 4)
            names = tuple(f"x{k}" for k in range(many))
            self.judged(with_cases([("Leaf", names, ZERO)]), many <= 4)

    def test_names_need_not_be_there_or_unlike(self):
        self.judged(with_functions([("f", "Nothing", ())]), True)
        self.judged(with_functions([("f", "Tree", ())] * 2), True)
        self.judged(with_cases([("Nothing", ("x", "x"), ("field", "y"))] * 2), True)
        self.judged(with_expressions(("call", "nothing", "nowhere")), True)
        twice = ("product", (("field", "x"), ("field", "x")))
        self.judged(with_expressions(twice), True)

    def test_low_and_high_names(self):
        for low in ("f", "fF9", "abcdefghij", "num", "sum", "call", "tree"):
            self.names(low, "Tree", "Leaf", True)
        for low in ("F", "fun", "kind", "number", "", "9f", "abcdefghijk", "a_b", "a b", None, 1):
            self.names(low, "Tree", "Leaf", False)
        for high in ("T", "Fun", "T9t", "Abcdefghij", "Number"):
            self.names("f", high, high, True)
        for high in ("t", "fun", "number", "", "9T", "Abcdefghijk", "A_B", "A ", None, ("T",)):
            self.judged(with_functions([("f", high, ())]), False)
            self.judged(with_cases([(high, (), ZERO)]), False)

    def names(self, low, kind, maker, right):
        self.judged(with_functions([(low, kind, ())]), right)
        self.judged(with_cases([(maker, (low,), ZERO)]), right)
        self.judged(with_expressions(("field", low)), right)
        self.judged(with_expressions(("call", low, "x")), right)
        self.judged(with_expressions(("call", "f", low)), right)


class Expressions(unittest.TestCase):

    judged = Programs.judged

    def test_numerals_at_their_bounds(self):
        great = 10 ** 9
        for ratio in ((0, 1), (great, 1), (-great, 1), (1, great), (-1, great), (great - 1, great),
                      (1 - great, great), (2, 3), (-2, 3)):
            self.judged(with_expressions(("num", ratio)), True)
        for ratio in ((great + 1, 1), (-great - 1, 1), (1, great + 1), (-1, great + 1),
                      (great + 2, great + 1), (10 ** 5000, 1), (1, 10 ** 5000), (0, 2), (2, 2),
                      (1, 0), (1, -1), (2, 4), (1,), (1, 1, 1), 1, (True, 1), (1, True)):
            self.judged(with_expressions(("num", ratio)), False)

    def test_words_and_lengths(self):
        for e in (("num",), ("num", (1, 1), (1, 1)), ("num", 1, 1), ("field",), ("field", "x", "x"),
                  ("call",), ("call", "f"), ("call", "f", "x", "x"), ("sum",), ("sum", ZERO, ZERO),
                  ("sum", (ZERO, ZERO), ()), ("Sum", (ZERO, ZERO)), ("add", (ZERO, ZERO)),
                  ("", "x"), (("field",), "x"), (None, "x"), ("field", 1), (), "num", 0, (0, 1)):
            self.judged(with_expressions(e), False)
            self.judged(with_expressions(("sum", (ZERO, e))), False)

    def test_two_to_sixty_parts(self):
        for word in ("sum", "product"):
            for many in (0, 1, 2, 3, 59, 60, 61, 62, 500):
                self.judged(with_expressions((word, (ZERO,) * many)), 2 <= many <= 60)
                inner = ("product", (("sum", (ZERO,) * many), ZERO))
                self.judged(with_expressions(inner), 2 <= many <= 60)

    def test_chains_of_twenty(self):
        for word in ("sum", "product"):
            for inner in (ZERO, ("field", "x"), ("call", "f", "x")):
                for many in (1, 2, 19, 20, 21, 22, 25):
                    self.judged(with_expressions(nested(many, word, inner)), many <= 20)
                    self.judged(with_expressions(ZERO, nested(many, word, inner)), many <= 20)

    def test_chains_that_shared_expressions_make_wide(self):
        e = ZERO
        for _ in range(19):
            e = ("sum", (e, e))
        self.judged(with_expressions(e), False)
        e = ZERO
        for _ in range(19):
            e = ("sum", (e,) * 60)
        self.judged(with_expressions(e), False)
        self.judged(with_functions([("f", "Tree", (("Leaf", (), e),) * 6)] * 60), False)

    def test_three_thousand_expressions(self):
        for many in (2999, 3000, 3001, 3002):
            e = counted(many)
            self.assertEqual(count(e), many)
            self.judged(with_expressions(e), many <= 3000)

    def test_the_cases_of_a_function_are_counted_together(self):
        for last in (499, 500, 501):
            cases = [counted(500)] * 5 + [counted(last)]
            self.judged(with_expressions(*cases), last <= 500)
            self.judged(with_expressions(*reversed(cases)), last <= 500)
        self.judged(with_expressions(counted(2999), ZERO), True)
        self.judged(with_expressions(counted(3000), ZERO), False)

    def test_each_function_is_counted_alone(self):
        function = ("f", "Tree", (("Leaf", (), counted(3000)),))
        self.judged(with_functions([function] * 60), True)
        greater = ("f", "Tree", (("Leaf", (), counted(3001)),))
        self.judged(with_functions([function] * 59 + [greater]), False)


if __name__ == "__main__":
    unittest.main()
