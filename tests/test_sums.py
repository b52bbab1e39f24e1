"""Points [38] and [39]: sums over all trees of a size, and forms that tell products."""

import random
import unittest

from sameontrees.errors import (BadForm, BadKind, BadLimit, BadName, HasNumbers, TooGreat, Unlike)
from sameontrees.forms import is_form
from sameontrees.sums import counts, product_form, sums
from tests import reference
from tests.common import (BINARY, LEAVES, MIXED_FORM, NEVER, PAIRS, S, dims_form, lone_form,
                          raised, with_part)
from tests.reference import Fraction, ratio
from tests.wide import ring_form

ONE = (1, 1)
NONE = (0, 1)
TWO = (2, 1)


def drawn_forms(seed, many):
    """Drawn forms of kinds without number fields."""
    chance = random.Random(seed)
    for _ in range(many):
        kinds = reference.random_kinds(chance, 3, 3, ())
        yield chance, reference.random_form(chance, kinds, 3, 0.4)


class Sums(unittest.TestCase):

    def test_the_example(self):
        self.assertEqual(sums(S, "size", 5), (NONE, ONE, NONE, (3, 1), NONE, (10, 1)))
        self.assertEqual(counts(S, "Tree", 7), (0, 1, 0, 1, 0, 2, 0, 5))
        self.assertEqual(sums(form=S, name="size", most=1), (NONE, ONE))
        self.assertEqual(counts(form=S, kind="Tree", most=0), (0,))

    def test_against_all_trees(self):
        for _, form in drawn_forms(171, 120):
            for name, kind, _ in form[3]:
                told = [Fraction(0)] + [sum((reference.number_of_nested(form, name, tree) for tree in
                                             reference.trees_of_size(form[0], kind, size, ())), Fraction(0))
                                        for size in range(1, 5)]
                self.assertEqual(sums(form, name, 4), tuple(map(ratio, told)))
            for kind, _ in form[0]:
                told = [0] + [len(reference.trees_of_size(form[0], kind, size, ())) for size in range(1, 6)]
                self.assertEqual(counts(form, kind, 5), tuple(told))

    def test_fractions_of_unlike_bottoms(self):
        leaf = ((0, (), (1, 6)), (1, (), (-3, 5)))
        node = ((0, (0, 1), (5, 7)), (0, (1, 1), (1, 4)), (1, (0, 0), (2, 9)))
        form = (PAIRS, (2,), ((leaf, node),), (("r", "Tree", ((1, 11), (-2, 13))),))
        told = [Fraction(0)] + [sum((reference.number_of_nested(form, "r", tree) for tree in
                                     reference.trees_of_size(PAIRS, "Tree", size, ())), Fraction(0))
                                for size in range(1, 10)]
        self.assertEqual(sums(form, "r", 9), tuple(map(ratio, told)))

    def test_size_60_of_kinds_with_many_trees(self):
        six = (("T", (("A", ()), ("B", ("T",)), ("C", ("T", "T")), ("D", ("T", "T", "T")),
                      ("E", ("T",) * 4), ("F", ("T",) * 4))),)
        ones = tuple(((0, (0,) * len(fields), ONE),) for _, fields in six[0][1])
        form = (six, (1,), (ones,), (("one", "T", (ONE,)),))
        told = counts(form, "T", 60)
        self.assertEqual(len(told), 61)
        self.assertGreater(told[60], 10 ** 30)
        self.assertEqual(tuple(many for many, _ in sums(form, "one", 60)), told)
        # Each tree of a size above 1 is one of the makers over smaller ones.
        for size in (2, 17, 60):
            self.assertEqual(told[size], sum(self.folded(told, fields, size - 1)
                                             for fields in (1, 2, 3, 4, 4)))
        # Catalan's numbers stand at the odd sizes.
        pairs = counts(S, "Tree", 59)[1::2]
        for at, many in enumerate(pairs[1:], 1):
            self.assertEqual(many * (at + 1), pairs[at - 1] * (4 * at - 2))

    def folded(self, told, fields, together):
        """How many choices of so many trees have this size together."""
        ways = [1] + [0] * together
        for _ in range(fields):
            ways = [sum(ways[at - size] * told[size] for size in range(1, at + 1))
                    for at in range(together + 1)]
        return ways[together]

    def test_many_coordinates(self):
        ring = ring_form(16)
        self.assertEqual(sums(ring, "last", 60),
                         tuple((int(size % 16 == 0 and size > 0), 1) for size in range(61)))
        self.assertEqual(counts(ring, "Nat", 60), (0,) + (1,) * 60)

    def test_great_numbers(self):
        deep = (PAIRS, (1,), ((((0, (), (10 ** 20 + 1, 7)),), ((0, (0, 0), ONE),)),),
                (("r", "Tree", (ONE,)),))
        self.assertEqual(sums(deep, "r", 5)[5], (2 * (10 ** 20 + 1) ** 3, 343))

    def test_two_kinds_and_kinds_without_trees(self):
        kinds = (("T", (("Leaf", ()), ("Both", ("T", "U")))), ("U", (("Into", ("T",)), ("Over", ("V",)))),
                 ("V", (("Turn", ("V", "T")),)))
        ones = tuple(tuple(((0, (0,) * len(fields), TWO),) for _, fields in makers) for _, makers in kinds)
        form = (kinds, (1, 1, 1), ones, (("t", "T", (ONE,)), ("u", "U", (ONE,)), ("v", "V", (ONE,))))
        self.assertEqual(counts(form, "V", 4), (0,) * 5)
        self.assertEqual(sums(form, "v", 4), (NONE,) * 5)
        self.assertEqual(counts(form, "T", 7), (0, 1, 0, 0, 1, 0, 0, 2))
        self.assertEqual(counts(form, "U", 8), (0, 0, 1, 0, 0, 1, 0, 0, 2))
        self.assertEqual(sums(form, "u", 5), (NONE, NONE, (4, 1), NONE, NONE, (32, 1)))

    def test_no_coordinates(self):
        self.assertEqual(sums((PAIRS, (0,), (((), ()),), (("r", "Tree", ()),)), "r", 3), (NONE,) * 4)
        self.assertEqual(counts(dims_form(0), "K0", 3), (0, 1, 1, 1))
        self.assertEqual(counts(lone_form(0), "Dot", 2), (0, 1, 0))


class Errors(unittest.TestCase):

    def test_limits(self):
        self.assertEqual(len(sums(S, "size", 0)), 1)
        self.assertEqual(len(counts(S, "Tree", 60)), 61)
        for most in (-1, 61, 10 ** 30, True, False, None, "5", (5,), [5], b"5"):
            raised(BadLimit, sums, S, "size", most)
            raised(BadLimit, counts, S, "Tree", most)

    def test_errors_in_their_order(self):
        for thing in NEVER:
            raised(BadForm, sums, thing, thing, -1)
            raised(BadForm, counts, thing, thing, -1)
            raised(BadName, sums, S, thing, -1)
            raised(BadKind, counts, S, thing if thing is not NEVER[8] else None, -1)
        raised(BadForm, sums, dims_form(17), None, None)
        raised(BadName, sums, S, "Tree", 3)
        raised(BadName, sums, S, "sizes", 3)
        raised(BadKind, counts, S, "size", 3)
        raised(BadKind, counts, S, "Leaf", 3)
        raised(BadKind, counts, S, "number", 3)
        raised(BadLimit, sums, MIXED_FORM, "one", 61)
        raised(BadLimit, counts, MIXED_FORM, "List", 61)
        raised(HasNumbers, sums, MIXED_FORM, "one", 3)
        raised(HasNumbers, counts, MIXED_FORM, "Item", 0)

    def test_number_fields_that_kinds_lead_to(self):
        kinds = (("A", (("Az", ()), ("As", ("A",)))), ("B", (("Bz", ("A",)), ("Bs", ("C", "B")))),
                 ("C", (("Cz", ()), ("Cs", ("D",)))), ("D", (("Dz", ("C",)), ("Ds", ("number", "E")))),
                 ("E", (("Es", ("E",)),)))
        nothing = tuple(((),) * len(makers) for _, makers in kinds)
        form = (kinds, (1,) * 5, nothing, tuple((f"r{kind.lower()}", kind, (ONE,)) for kind, _ in kinds))
        # There is no tree with an integer, as none is of the kind E.
        for kind, right in (("A", True), ("B", False), ("C", False), ("D", False), ("E", True)):
            name = f"r{kind.lower()}"
            if right:
                self.assertEqual(len(counts(form, kind, 3)), 4)
                self.assertEqual(sums(form, name, 3), (NONE,) * 4)
            else:
                raised(HasNumbers, counts, form, kind, 3)
                raised(HasNumbers, sums, form, name, 3)
                raised(HasNumbers, sums, form, name, 0)
                raised(BadLimit, sums, form, name, 61)


class Products(unittest.TestCase):

    def judged(self, one, other):
        """The product form, held against the numbers and vectors of both."""
        told = product_form(one, other)
        self.assertIs(is_form(told), True)
        self.assertEqual(told[1], tuple(dim * more for dim, more in zip(one[1], other[1])))
        heads = [(f"{name}x{more}", kind, name, more) for name, kind, _ in one[3]
                 for more, own, _ in other[3] if own == kind]
        self.assertEqual([read[:2] for read in told[3]], [head[:2] for head in heads])
        for kind, trees in reference.all_trees(one[0], 4, ()).items():
            for tree in trees[:15]:
                left, right = [reference.vector_of_nested(form, tree) for form in (one, other)]
                self.assertEqual(reference.vector_of_nested(told, tree),
                                 [entry * factor for entry in left for factor in right])
                for name, own, first, second in heads:
                    if own == kind:
                        self.assertEqual(reference.number_of_nested(told, name, tree),
                                         reference.number_of_nested(one, first, tree)
                                         * reference.number_of_nested(other, second, tree))
        for own, first, second in zip(told[2], one[2], other[2]):
            self.assertEqual([len(terms) for terms in own],
                             [len(terms) * len(more) for terms, more in zip(first, second)])
        return told

    def test_by_hand(self):
        one = (PAIRS, (1,), ((((0, (), TWO),), ((0, (0, 0), (1, 3)),)),), (("a", "Tree", ((5, 1),)),))
        told = self.judged(one, LEAVES)
        leaf = ((0, (), TWO), (1, (), TWO))
        node = ((0, (0, 0), (1, 3)), (1, (0, 1), (1, 3)), (1, (1, 0), (1, 3)))
        self.assertEqual(told, (PAIRS, (2,), ((leaf, node),), (("axsize", "Tree", (NONE, (5, 1))),)))

    def test_drawn_forms(self):
        for chance, form in drawn_forms(172, 60):
            other = reference.random_form(chance, form[0], 3, 0.4)
            self.judged(form, other)

    def test_coordinates_of_unlike_dims(self):
        other = (PAIRS, (3,), ((((2, (), ONE),), ((1, (0, 2), ONE), (2, (2, 1), TWO))),),
                 (("b", "Tree", (ONE, TWO, (3, 1))), ("c", "Tree", (NONE, NONE, ONE))))
        told = self.judged(S, other)
        self.assertEqual(told[1], (6,))
        self.assertEqual([name for name, _, _ in told[3]], ["sizexb", "sizexc"])
        self.assertEqual(told[3][0][2], (NONE,) * 3 + (ONE, TWO, (3, 1)))
        self.judged(other, S)

    def test_reads_of_unlike_kinds_and_names(self):
        form = dims_form(1, 1)
        one = with_part(form, (3,), (("a", "K0", (ONE,)), ("b", "K1", (TWO,)), ("c", "K0", ((3, 1),))))
        other = with_part(form, (3,), (("d", "K1", ((5, 1),)), ("e", "K0", ((7, 1),)), ("f", "K0", (ONE,))))
        told = self.judged(one, other)
        self.assertEqual(told[3], (("axe", "K0", ((7, 1),)), ("axf", "K0", (ONE,)),
                                   ("bxd", "K1", ((10, 1),)), ("cxe", "K0", ((21, 1),)),
                                   ("cxf", "K0", ((3, 1),))))
        self.assertEqual(self.judged(one, form)[3], ())

    def test_squares_summed(self):
        told = product_form(S, S)
        self.assertEqual(sums(told, "sizexsize", 7),
                         (NONE, ONE, NONE, (9, 1), NONE, (50, 1), NONE, (245, 1)))

    def test_errors_in_their_order(self):
        for thing in NEVER:
            raised(BadForm, product_form, thing, S)
            raised(BadForm, product_form, S, thing)
        raised(BadForm, product_form, dims_form(17), dims_form(2))
        raised(BadForm, product_form, dims_form(2), dims_form(17))
        raised(BadForm, product_form, MIXED_FORM, None)
        raised(Unlike, product_form, S, dims_form(2))
        raised(Unlike, product_form, S, MIXED_FORM)
        raised(Unlike, product_form, MIXED_FORM, S)
        raised(HasNumbers, product_form, MIXED_FORM, MIXED_FORM)
        raised(HasNumbers, product_form, (BINARY, (16,), (((), ()),), ()), (BINARY, (2,), (((), ()),), ()))
        # A number field of whatever kind.
        kinds = S[0] + (("N", (("One", ("number",)),)),)
        form = (kinds, (2, 0), S[2] + (((),),), S[3])
        raised(HasNumbers, product_form, form, form)

    def test_too_many_coordinates(self):
        self.assertEqual(product_form(dims_form(4), dims_form(4))[1], (16,))
        self.assertEqual(product_form(dims_form(16, 0), dims_form(1, 7))[1], (16, 0))
        raised(TooGreat, product_form, dims_form(6, 1), dims_form(3, 1))
        raised(TooGreat, product_form, dims_form(16), dims_form(2))
        self.assertEqual(product_form(dims_form(4, 4, 0), dims_form(4, 4, 1))[1], (16, 16, 0))
        raised(TooGreat, product_form, dims_form(4, 4, 1), dims_form(4, 4, 1))

    def test_too_many_terms(self):
        def form(dim, many):
            places = [(row, (one, two, three)) for row in range(dim) for one in range(dim)
                      for two in range(dim) for three in range(dim)][:many]
            kinds = (("T", (("Leaf", ()), ("Tri", ("T",) * 3))),)
            return (kinds, (dim,), (((), tuple((*place, ONE) for place in places)),), ())

        self.assertEqual(len(product_form(form(4, 80), form(4, 50))[2][0][1]), 4000)
        self.assertEqual(len(product_form(form(8, 4000), form(1, 1))[2][0][1]), 4000)
        self.assertEqual(product_form(form(8, 4000), form(1, 0))[2][0][1], ())
        raised(TooGreat, product_form, form(4, 81), form(4, 50))
        raised(TooGreat, product_form, form(4, 256), form(4, 256))

    def test_names(self):
        def form(*names):
            return dims_form(1)[:3] + (tuple((name, "K0", (ONE,)) for name in names),)

        for one, other in (("a" * 8, "b"), ("a", "b" * 8), ("abcd", "efghi")):
            self.assertEqual(product_form(form(one), form(other))[3][0][0], f"{one}x{other}")
            raised(TooGreat, product_form, form(one + "c"), form(other))
            raised(TooGreat, product_form, form(one), form(other + "c"))
        raised(TooGreat, product_form, form("a", "axb"), form("bxc", "c"))
        self.assertEqual(len(product_form(form("a", "axb"), form("bxd", "c"))[3]), 4)

    def test_sixty_reads(self):
        names = [f"a{at}" for at in range(61)]

        def form(many):
            return dims_form(1)[:3] + (tuple((name, "K0", (ONE,)) for name in names[:many]),)

        self.assertEqual(len(product_form(form(6), form(10))[3]), 60)
        raised(TooGreat, product_form, form(31), form(2))
        self.assertEqual(len(product_form(form(60), form(1))[3]), 60)


if __name__ == "__main__":
    unittest.main()
