"""Point [14]: the form of a program."""

import random
import unittest

from sameontrees.checks import check, tell
from sameontrees.errors import BadProgram, NotChecked, TooGreat
from sameontrees.forms import formed, is_form, number
from sameontrees.programs import is_program, read_program
from sameontrees.trees import rows_of
from tests import reference
from tests.common import BINARY, MIXED, NEVER, PAIRS, raised, spoilt

ZERO = ("num", (0, 1))
ONE = ("num", (1, 1))
NODE_NAMES = ("l", "n", "r")
QUAD = (("T", (("L", ()), ("Q", ("T",) * 4))),)


def node_terms(e):
    """The terms of Node's coordinate 1 where this is the function's expression for Node."""
    program = (BINARY, (("f", "Tree", (("Leaf", (), ZERO), ("Node", NODE_NAMES, e))),))
    assert check(program) is None, program
    _, dims, maps, _ = formed(program)
    assert dims == (2,) and maps[0][0] == ((0, (), (1, 1)),)
    assert maps[0][1][0] == (0, (0, 0, 0), (1, 1))
    return tuple((cols, ratio) for _, cols, ratio in maps[0][1][1:])


def quad_program(expressions):
    """A program over QUAD with a function for each expression for Q."""
    return (QUAD, tuple((f"f{at}", "T", (("L", (), ZERO), ("Q", ("a", "b", "c", "d"), e)))
                        for at, e in enumerate(expressions)))


def calls(functions, name):
    """The sum of the calls of all these functions at the field."""
    return ("sum", tuple(("call", f"f{at}", name) for at in functions))


class Formed(unittest.TestCase):

    def test_the_example_of_the_programs(self):
        program = read_program(
            "kind Tree { Leaf ( ) Node ( Tree , number , Tree ) } fun sum ( Tree ) { Leaf ( ) = 0 "
            "; Node ( l , n , r ) = ( sum ( l ) + n + sum ( r ) ) ; }")
        self.assertEqual(formed(program), (
            BINARY, (2,),
            ((((0, (), (1, 1)),),
              ((0, (0, 0, 0), (1, 1)), (1, (0, 0, 1), (1, 1)), (1, (0, 1, 0), (1, 1)),
               (1, (1, 0, 0), (1, 1)))),),
            (("sum", "Tree", ((0, 1), (1, 1))),)))

    def test_a_program_without_functions(self):
        self.assertEqual(formed((MIXED, ())), (MIXED, (1, 1), (
            (((0, (), (1, 1)),), ((0, (0, 0, 0), (1, 1)),)),
            (((0, (0,), (1, 1)),), ((0, (0, 0), (1, 1)),), ((0, (0,), (1, 1)),))), ()))

    def test_coordinates_and_reads_of_several_kinds(self):
        item = (("One", ("n",), ("field", "n")), ("Pair", ("a", "b"), ("call", "f1", "a")),
                ("Box", ("l",), ("call", "f2", "l")))
        lists = (("End", (), ONE), ("Item", ("n", "i", "l"), ("product", (
            ("call", "f3", "i"), ("field", "n"), ("call", "f0", "l")))))
        program = (MIXED, (("f0", "List", lists), ("f1", "Item", item), ("f2", "List", lists),
                           ("f3", "Item", item)))
        kinds, dims, maps, reads = formed(program)
        self.assertEqual((kinds, dims), (MIXED, (3, 3)))
        self.assertEqual(reads, (("f0", "List", ((0, 1), (1, 1), (0, 1))),
                                 ("f1", "Item", ((0, 1), (1, 1), (0, 1))),
                                 ("f2", "List", ((0, 1), (0, 1), (1, 1))),
                                 ("f3", "Item", ((0, 1), (0, 1), (1, 1)))))
        one = (1, 1)
        self.assertEqual(maps[0], (((0, (), one), (1, (), one), (2, (), one)),
                                   ((0, (0, 0, 0), one), (1, (1, 2, 1), one), (2, (1, 2, 1), one))))
        self.assertEqual(maps[1], (((0, (0,), one), (1, (1,), one), (2, (1,), one)),
                                   ((0, (0, 0), one), (1, (1, 0), one), (2, (1, 0), one)),
                                   ((0, (0,), one), (1, (2,), one), (2, (2,), one))))

    def test_sums_of_products(self):
        left, n, right = ("call", "f", "l"), ("field", "n"), ("call", "f", "r")
        two, half = ("num", (2, 1)), ("num", (-1, 2))
        self.assertEqual(node_terms(ZERO), ())
        self.assertEqual(node_terms(half), (((0, 0, 0), (-1, 2)),))
        self.assertEqual(node_terms(n), (((0, 1, 0), (1, 1)),))
        self.assertEqual(node_terms(("product", (n, right, two, left, half))),
                         (((1, 1, 1), (-1, 1)),))
        self.assertEqual(node_terms(("product", (("sum", (left, two)), ("sum", (n, half))))), (
            ((0, 0, 0), (-1, 1)), ((0, 1, 0), (2, 1)), ((1, 0, 0), (-1, 2)), ((1, 1, 0), (1, 1))))

    def test_equal_terms_are_summed_and_those_that_are_0_left_out(self):
        left, n, minus = ("call", "f", "l"), ("field", "n"), ("num", (-1, 1))
        self.assertEqual(node_terms(("sum", (n, n, left, n))),
                         (((0, 1, 0), (3, 1)), ((1, 0, 0), (1, 1))))
        self.assertEqual(node_terms(("sum", (n, left, ("product", (minus, n))))),
                         (((1, 0, 0), (1, 1)),))
        self.assertEqual(node_terms(("sum", (("num", (1, 3)), n, ("num", (1, 6)), ZERO))),
                         (((0, 0, 0), (1, 2)), ((0, 1, 0), (1, 1))))
        self.assertEqual(node_terms(("product", (n, ("sum", (ONE, minus)), left))), ())
        self.assertEqual(node_terms(("product", (ZERO, n))), ())

    def test_a_chain_of_sums_and_products_within_one_another(self):
        e, constant = ("field", "n"), 0
        for at in range(19):
            if at % 2 == 0:
                e, constant = ("product", (("num", (2, 1)), e)), 2 * constant
            else:
                e, constant = ("sum", (ONE, e)), constant + 1
        self.assertEqual(node_terms(e), (((0, 0, 0), (constant, 1)), ((0, 1, 0), (2 ** 10, 1))))

    def test_very_many_products_that_are_summed_to_one_term(self):
        ones = ("sum", (ONE,) * 40)
        self.assertEqual(node_terms(("product", (ones,) * 60)), (((0, 0, 0), (40 ** 60, 1)),))
        two = ("sum", (ONE, ONE))
        mixed = ("product", (("field", "n"),) + (two,) * 59)
        self.assertEqual(node_terms(mixed), (((0, 1, 0), (2 ** 59, 1)),))
        nothing = ("sum", (mixed, ("product", (mixed, ("num", (-1, 1))))))
        self.assertEqual(node_terms(nothing), ())

    def test_random_programs_tell_what_their_forms_tell(self):
        chance = random.Random(31)
        asked = 0
        for _ in range(120):
            kinds = reference.random_kinds(chance)
            program = reference.random_program(chance, kinds)
            self.assertTrue(is_program(program) and check(program) is None)
            form = formed(program)
            self.assertTrue(is_form(form))
            self.assertEqual([read[:2] for read in form[3]], [head[:2] for head in program[1]])
            for name, kind, _ in program[1]:
                for size in range(1, 4):
                    for tree in reference.trees_of_size(kinds, kind, size, (0, 1, -3))[:5]:
                        words = reference.words_of_nested(tree)
                        told = reference.ratio(reference.told_of_nested(program, name, tree))
                        self.assertEqual(tell(program, name, words), told)
                        self.assertEqual(number(form, name, rows_of(kinds, kind, words)), told)
                        asked += 1
        self.assertGreater(asked, 300)


class Bounds(unittest.TestCase):

    def functions(self, many, kind, cases):
        """So many functions of the kind."""
        return tuple((f"{kind.lower()}{at}", kind, cases) for at in range(many))

    def test_dims_of_16_and_17(self):
        cases = (("Leaf", (), ONE), ("Node", ("l", "r"), ONE))
        self.assertEqual(formed((PAIRS, self.functions(15, "Tree", cases)))[1], (16,))
        for many in (16, 40, 60):
            raised(TooGreat, formed, (PAIRS, self.functions(many, "Tree", cases)))

    def test_dims_of_32_and_33_together(self):
        kinds = (("A", (("X", ()),)), ("B", (("Y", ()),)), ("C", (("Z", ()),)))
        cases = [((maker, (), ONE),) for maker in ("X", "Y", "Z")]
        for one, other, third in ((15, 14, 0), (15, 15, 0), (9, 10, 10), (10, 10, 10), (0, 15, 14),
                                  (0, 15, 15), (15, 0, 14), (16, 0, 0), (0, 0, 16)):
            program = (kinds, self.functions(one, "A", cases[0]) + self.functions(other, "B", cases[1])
                       + self.functions(third, "C", cases[2]))
            if one + other + third <= 29 and max(one, other, third) <= 15:
                form = formed(program)
                self.assertEqual(form[1], (one + 1, other + 1, third + 1))
                self.assertTrue(is_form(form))
            else:
                raised(TooGreat, formed, program)

    def test_terms_of_4000_and_4001(self):
        # Function f0 has 8 * 8 * 8 * 7 products, f1 as many as are missing, others none.
        first = ("product", (calls(range(8), "a"), calls(range(8), "b"), calls(range(8), "c"),
                             calls(range(7), "d")))
        for more, right in ((414, True), (415, True), (416, False), (430, False)):
            rows, rest = divmod(more, 20)
            parts = [("product", (calls(range(5), "a"), ("sum", tuple(
                ("product", (("call", f"f{row % 8}", "b"), ("call", f"f{row // 8}", "c"),
                             ("call", f"f{at}", "d"))) for at in range(4)))))
                     for row in range(rows)]
            parts += [("product", (("call", f"f{at % 8}", "a"), ("call", f"f{at // 8}", "b")))
                      for at in range(rest)]
            program = quad_program([first, ("sum", tuple(parts))] + [ZERO] * 6)
            self.assertIsNone(check(program))
            if right:
                form = formed(program)
                self.assertEqual(len(form[2][0][1]), 1 + 8 * 8 * 8 * 7 + more)
                self.assertTrue(is_form(form))
            else:
                raised(TooGreat, formed, program)

    def test_terms_are_counted_as_the_form_has_them(self):
        # Multiplied out there are 15 ** 4 products on the way, of which one is left.
        many = ("product", tuple(calls(range(15), name) for name in "abcd"))
        raised(TooGreat, formed, quad_program([many] + [ZERO] * 14))
        opposite = ("product", (many, ("num", (-1, 1))))
        left = ("sum", (many, ("call", "f3", "b"), opposite))
        form = formed(quad_program([left] + [ZERO] * 14))
        self.assertEqual(form[2][0][1], ((0, (0,) * 4, (1, 1)), (1, (0, 4, 0, 0), (1, 1))))
        nothing = ("product", (calls(range(15), "a"), calls(range(15), "b"), calls(range(15), "c"),
                               ("sum", (("call", "f0", "d"), ("product", (
                                   ("num", (-1, 1)), ("call", "f0", "d")))))))
        self.assertEqual(formed(quad_program([nothing] + [ZERO] * 14))[2][0][1],
                         ((0, (0,) * 4, (1, 1)),))

    def test_terms_of_several_functions_together(self):
        thousand = ("product", (calls(range(10), "a"), calls(range(10), "b"), calls(range(10), "c")))
        one = ("call", "f0", "d")
        less = ("product", (calls(range(9), "a"), calls(range(11), "b"), calls(range(10), "c")))
        for expressions, right in (([thousand] * 3 + [less], True), ([thousand] * 4, False),
                                   ([thousand] * 3 + [less, one], True),
                                   ([thousand] * 3 + [("sum", (less, one)), one], True)):
            program = quad_program(expressions + [ZERO] * (12 - len(expressions)))
            if right:
                self.assertGreater(len(formed(program)[2][0][1]), 3990)
            else:
                raised(TooGreat, formed, program)

    def test_great_ratios(self):
        great = ("num", (10 ** 9, 1))
        small = ("num", (1, 10 ** 9))
        self.assertEqual(node_terms(("product", (great,) * 60)), (((0, 0, 0), (10 ** 540, 1)),))
        self.assertEqual(node_terms(("product", (small,) * 60)), (((0, 0, 0), (1, 10 ** 540)),))


class Wrong(unittest.TestCase):

    def test_each_error(self):
        right = (BINARY, (("f", "Tree", (("Leaf", (), ZERO), ("Node", NODE_NAMES, ONE))),))
        self.assertEqual(formed(right)[1], (2,))
        for thing in (*NEVER, *spoilt(right)):
            raised(BadProgram, formed, thing)
        self.assertEqual(raised(NotChecked, formed, (BINARY, right[1] * 2)).what, ("double", "f"))

    def test_too_great_is_behind_not_checked(self):
        cases = (("Leaf", (), ONE), ("Node", ("l", "r"), ("field", "l")))
        functions = tuple((f"f{at}", "Tree", cases) for at in range(40))
        self.assertEqual(raised(NotChecked, formed, (PAIRS, functions)).what, ("field", "f0"))


if __name__ == "__main__":
    unittest.main()
