"""Points [18] and [19]: the basis trees of a form."""

import random
import unittest

from sameontrees.errors import BadForm, TooGreat
from sameontrees.forms import is_form, vectors
from sameontrees.matrices import rank
from sameontrees.reached import closing, is_closing, reached
from sameontrees.trees import is_rows, sizes, words_of
from tests import reference
from tests.common import (MIXED_FORM, NEVER, PAIRS, S, dims_form, full_form, lone_form, raised, spoilt,
                          with_part)

ONE = (1, 1)


def chain_form(dim, more=(), maps=()):
    """A form of a kind T with a basis tree for each coordinate, each Next of the one ahead."""
    makers = (("Leaf", ()), ("Next", ("T",))) + tuple(more)
    steps = tuple((at + 1, (at,), ONE) for at in range(dim - 1))
    return ((("T", makers),), (dim,), ((((0, (), ONE),), steps) + tuple(maps),), ())


def words_of_basis(form, told):
    """For each kind the words of its basis trees."""
    rows, basis = told
    return [[words_of(form[0], rows[:at + 1]) for at in own] for own in basis]


class Told(unittest.TestCase):

    def judged(self, form):
        """What reached tells of the form; fails if it is not as all results are."""
        rows, basis = reached(form)
        kinds, dims = form[:2]
        self.assertEqual(len(basis), len(kinds))
        self.assertEqual(sorted(at for own in basis for at in own), list(range(len(rows))))
        self.assertTrue(rows == () or is_rows(kinds, rows))
        self.assertEqual(len(set(rows)), len(rows))
        names = [name for name, _ in kinds]
        makers = reference.makers_in(kinds)
        places = [(size, makers[maker][0])
                  for size, (maker, _) in zip(sizes(kinds, rows) if rows else (), rows)]
        self.assertEqual(places, sorted(places))
        for (name, _), dim, own in zip(kinds, dims, basis):
            self.assertEqual(own, tuple(sorted(own)))
            self.assertLessEqual(len(own), dim)
            self.assertEqual({names[makers[rows[at][0]][0]] for at in own} - {name}, set())
            told = vectors(form, rows) if rows else ()
            self.assertEqual(rank(tuple(told[at] for at in own)), len(own))
        for maker, entries in rows:
            for field, entry in zip(makers[maker][2], entries):
                self.assertTrue(field != "number" or entry in (0, 1))
        return rows, basis

    def test_the_example(self):
        self.assertEqual(self.judged(S), ((("Leaf", ()), ("Node", (0, 0))), ((0, 1),)))

    def test_no_basis_trees(self):
        # Kinds without trees, and kinds whose trees all have the vector 0 or ().
        alone = (("T", (("Next", ("T",)), ("Two", ("T", "number", "T")))),)
        form = (alone, (2,), ((((0, (0,), ONE),), ((1, (0, 1, 1), ONE),)),), ())
        self.assertEqual(self.judged(form), ((), ((),)))
        self.assertEqual(self.judged(lone_form(0)), ((), ((),)))
        self.assertEqual(self.judged(lone_form(3)), ((), ((),)))
        self.assertEqual(self.judged(dims_form(3, 0, 2)), ((), ((), (), ())))
        zeros = with_part(chain_form(4), (2, 0, 0), ())
        self.assertEqual(self.judged(zeros), ((), ((),)))

    def test_a_kind_without_trees_beside_others(self):
        kinds = (("U", (("Loop", ("U",)),)), ("T", (("Leaf", ()), ("Both", ("U", "T")))))
        maps = ((((0, (0,), ONE),),), (((0, (), ONE),), ((1, (0, 0), ONE),)))
        self.assertEqual(self.judged((kinds, (1, 2), maps, ())), ((("Leaf", ()),), ((), (0,))))

    def test_a_tree_with_the_vector_0_is_no_basis_tree_but_a_tree(self):
        # Next of Leaf is 0, and Mark of Next of Leaf is so, too: they fall out.
        kinds = (("T", (("Leaf", ()), ("Next", ("T",)), ("Mark", ("T",)))),)
        maps = (((0, (), ONE),), (), ((1, (0,), ONE), (0, (1,), ONE)))
        maps = (maps[0], maps[1], tuple(sorted(maps[2])))
        self.assertEqual(self.judged((kinds, (2,), (maps,), ())),
                         ((("Leaf", ()), ("Mark", (0,))), ((0, 1),)))

    def test_number_fields_have_0_and_1(self):
        kinds = (("N", (("Two", ("number", "number")),)),)
        terms = tuple((2 * one + other, (one, other), ONE) for one in (0, 1) for other in (0, 1))
        rows = tuple(("Two", (one, other)) for one in (0, 1) for other in (0, 1))
        self.assertEqual(self.judged((kinds, (4,), ((terms,),), ())), (rows, ((0, 1, 2, 3),)))
        # What does not hang on the first integer leaves 0 there.
        self.assertEqual(self.judged((kinds, (4,), ((terms[:2],),), ())),
                         ((rows[0], rows[1]), ((0, 1),)))
        # What is 0 for the integer 0 leaves 1 there.
        self.assertEqual(self.judged((kinds, (4,), ((terms[2:],),), ())),
                         ((rows[2], rows[3]), ((0, 1),)))

    def test_the_maker_first_in_the_kind_is_first(self):
        for makers in ((("A", ()), ("B", ()), ("C", ())), (("C", ()), ("A", ()), ("B", ()))):
            form = ((("T", makers),), (1,), ((((0, (), ONE),),) * 3,), ())
            self.assertEqual(self.judged(form), ((makers[0],), ((0,),)))

    def test_equal_sizes_stand_in_sequence_of_their_words(self):
        # Of Pair(Leaf, Next) and Pair(Next, Leaf) the one whose first part's maker is first.
        for order in (("Leaf", "Next"), ("Next", "Leaf")):
            fields = {"Leaf": (), "Next": ("T",)}
            kinds = (("T", tuple((name, fields[name]) for name in order)),
                     ("P", (("Pair", ("T", "T")),)))
            maps = {"Leaf": ((0, (), ONE),), "Next": ((1, (0,), ONE),)}
            pairs = tuple((0, (one, other), ONE) for one, other in ((0, 1), (1, 0)))
            form = (kinds, (2, 1), (tuple(maps[name] for name in order), (pairs,)), ())
            first = ("Pair", (0, 1) if order[0] == "Leaf" else (1, 0))
            self.assertEqual(self.judged(form),
                             ((("Leaf", ()), ("Next", (0,)), first), ((0, 1), (2,))))

    def test_kinds_stand_in_their_order_at_a_size(self):
        kinds = (("B", (("Over", ("A",)), ("Zero", ()))), ("A", (("One", ()), ("Under", ("B",)))))
        maps = ((((0, (0,), ONE), (1, (1,), ONE)), ()), (((0, (), ONE),), ((1, (0,), ONE),)))
        self.assertEqual(self.judged((kinds, (2, 2), maps, ())), (
            (("One", ()), ("Over", (0,)), ("Under", (1,)), ("Over", (2,))), ((1, 3), (0, 2))))

    def test_all_trees_gone_through(self):
        chance = random.Random(51)
        found = 0
        for _ in range(250):
            kinds = reference.random_kinds(chance)
            form = reference.random_form(chance, kinds, 3, chance.choice((0.15, 0.3, 0.6)))
            words = words_of_basis(form, self.judged(form))
            most = 1
            while most < 6 and sum(len(reference.trees_of_size(kinds, kind, most + 1, (0, 1, -1)))
                                   for kind, _ in kinds) < 150:
                most += 1
            asked = reference.basis_trees(form, most, (0, 1, -1))
            for own, trees in zip(words, asked):
                small = [one for one in own if sum(isinstance(word, str) for word in one) <= most]
                self.assertEqual(small, [reference.words_of_nested(tree) for tree in trees])
                found += len(small)
        self.assertGreater(found, 400)

    def test_greater_trees_gone_through(self):
        chance = random.Random(52)
        sizes_found = []
        for _ in range(60):
            makers = [("L", ()), ("N", ("T",)), ("P", ("T", "T"))]
            chance.shuffle(makers)
            kinds = (("T", tuple(makers)),)
            form = reference.random_form(chance, kinds, 5, 0.08)
            [words] = words_of_basis(form, self.judged(form))
            [trees] = reference.basis_trees(form, 7, ())
            small = [one for one in words if len(one) <= 7]
            self.assertEqual(small, [reference.words_of_nested(tree) for tree in trees])
            sizes_found.extend(len(one) for one in small)
        self.assertGreater(max(sizes_found), 5)

    def test_trees_of_sizes_that_double(self):
        # Each basis tree is a Node of the one ahead twice: the last one has 2 ** 32 - 1 makers.
        terms = ((0, (), ONE),), tuple((at + 1, (at, at), ONE) for at in range(31))
        form = (PAIRS, (32,), (terms,), ())
        rows, basis = self.judged(form)
        self.assertEqual(rows[-1], ("Node", (30, 30)))
        self.assertEqual(sizes(PAIRS, rows)[-1], 2 ** 32 - 1)
        self.assertEqual(basis, (tuple(range(32)),))

    def test_words_of_great_trees_are_compared(self):
        # Over doubled trees Pair may have (i, j) or (j, i): they are of one size, but unlike words.
        for order, first in ((("Leaf", "Node"), (2, 6)), (("Node", "Leaf"), (6, 2))):
            fields = {"Leaf": (), "Node": ("Tree", "Tree")}
            terms = {"Leaf": ((0, (), ONE),),
                     "Node": tuple((at + 1, (at, at), ONE) for at in range(9))}
            kinds = (("Tree", tuple((name, fields[name]) for name in order)),
                     ("Pair", (("Two", ("Tree", "Tree")),)))
            pairs = ((0, (2, 6), ONE), (0, (6, 2), ONE))
            form = (kinds, (10, 1), (tuple(terms[name] for name in order), (pairs,)), ())
            rows, basis = self.judged(form)
            self.assertIn(("Two", tuple(self.at_depth(rows, depth) for depth in first)), rows)
            self.assertEqual(len(basis[1]), 1)

    def at_depth(self, rows, depth):
        """The index of the doubled tree with the depth."""
        at = rows.index(("Leaf", ()))
        for _ in range(depth):
            at = rows.index(("Node", (at, at)))
        return at

    def test_great_ratios(self):
        great = (10 ** 60 + 1, 10 ** 59)
        form = ((("T", (("L", ()), ("P", ("T", "T")))),), (3,),
                ((((0, (), great), (1, (), (1, 10 ** 50 + 1))),
                  ((0, (0, 0), ONE), (1, (0, 1), great), (2, (1, 1), great))),), ())
        rows, basis = self.judged(form)
        self.assertEqual(len(rows), 3)


class Bounds(unittest.TestCase):

    def test_20000_and_20001_makers_over_basis_trees(self):
        form = full_form(20000)
        self.assertTrue(is_form(form))
        rows, basis = reached(form)
        self.assertEqual((len(rows), basis[0]), (10, tuple(range(10))))
        for many in (20001, 20002):
            raised(TooGreat, reached, full_form(many))
            raised(TooGreat, closing, full_form(many))
            self.assertIs(is_closing(full_form(many), None), False)

    def test_a_kind_has_more_trees_than_basis_trees(self):
        # There are dims enough for too many, but not basis trees.
        kinds = (("T", (("Leaf", ()), ("Next", ("T",)), ("Quad", ("T",) * 4))),)
        for reach, right in ((11, True), (12, False)):
            steps = tuple((at + 1, (at,), ONE) for at in range(reach - 1))
            form = (kinds, (16,), ((((0, (), ONE),), steps, ()),), ())
            if right:
                self.assertEqual(len(reached(form)[0]), reach)
            else:
                raised(TooGreat, reached, form)

    def test_number_fields_count_twice(self):
        kinds = (("T", (("Leaf", ()), ("Next", ("T",)), ("A", ("T", "T", "number", "T")),
                        ("B", ("T", "T", "T", "number")))),)
        # 1 + n + 4 * n ** 3 is 19,671 for 17 and 23,347 for 18.
        for reach, right in ((17, True), (18, False)):
            steps = tuple((at + 1, (at,), ONE) for at in range(reach - 1))
            form = (kinds, (32,), ((((0, (), ONE),), steps, (), ()),), ())
            if right:
                self.assertEqual(len(reached(form)[0]), reach)
            else:
                raised(TooGreat, reached, form)

    def test_wide_forms(self):
        kinds = (("T", (("Leaf", ()), ("Next", ("T",)))), ("U", (("Zero", ()), ("Up", ("U",)))))
        steps = tuple((at + 1, (at,), ONE) for at in range(31))
        maps = (((0, (), ONE),), steps)
        rows, basis = reached((kinds, (32, 32), (maps, maps), ()))
        self.assertEqual(basis, (tuple(range(0, 64, 2)), tuple(range(1, 64, 2))))
        self.assertEqual(rows[62:], (("Next", (60,)), ("Up", (61,))))

    def test_wrong_forms(self):
        for thing in (*NEVER, *spoilt(MIXED_FORM), dims_form(33), dims_form(32, 32, 1), S[:3]):
            raised(BadForm, reached, thing)


if __name__ == "__main__":
    unittest.main()
