"""Points [21] and [22]: contexts and covectors."""

import random
import unittest

from sameontrees.errors import BadContext, BadForm, BadRows
from sameontrees.forms import is_form, vectors
from sameontrees.reached import reached
from sameontrees.seen import covector
from tests import reference
from tests.common import CHAIN, MIXED, MIXED_FORM, NEVER, PAIRS, S, dims_form, raised, spoilt
from tests.reference import as_fractions

ONE = (1, 1)
ROWS = (("Leaf", ()), ("Node", (0, 0)), ("Node", (1, 0)))
MIXED_ROWS = (("End", ()), ("One", (5,)), ("Item", (-2, 1, 0)), ("Box", (2,)), ("Pair", (1, 3)))


def random_context(chance, form, rows, most_steps):
    """A context over rows and the name of its kind, None where no step can go on."""
    kinds, _, _, reads = form
    makers = reference.makers_in(kinds)
    names = [name for name, _ in kinds]
    of_kind = {name: [at for at, (maker, _) in enumerate(rows) if names[makers[maker][0]] == name]
               for name in names}
    read = chance.randrange(len(reads))
    kind = reads[read][1]
    steps = []
    for _ in range(chance.randint(0, most_steps)):
        ways = [(maker, place, fields[:place] + fields[place + 1:])
                for maker, fields in dict(kinds)[kind] for place, field in enumerate(fields)
                if field != "number"]
        ways = [way for way in ways if all(field == "number" or of_kind[field] for field in way[2])]
        if not ways:
            break
        maker, place, others = chance.choice(ways)
        steps.append((maker, place, tuple(chance.randint(-3, 3) if field == "number"
                                          else chance.choice(of_kind[field]) for field in others)))
        kind = makers[maker][2][place]
    return (read, tuple(steps)), kind


def next_steps(many):
    """So many steps of CHAIN."""
    return (("Next", 0, ()),) * many


def chain_form():
    """A form of CHAIN whose coordinate 1 is the number of makers and the integers together."""
    zero = ((0, (), ONE), (1, (), ONE))
    follow = ((0, (0,), ONE), (1, (0,), ONE), (1, (1,), ONE))
    mark = ((0, (0, 0), ONE), (1, (0, 1), ONE), (1, (1, 0), ONE))
    return (CHAIN, (2,), ((zero, follow, mark),), (("count", "Nat", (ONE, (2, 1))),))


class Covectors(unittest.TestCase):

    def judged(self, form, rows, context, kind, integers=(0, 1, 3), most=3):
        """The covector, held against trees of the kind in the hole."""
        told = covector(form, rows, context)
        for tree in reference.all_trees(form[0], most, integers)[kind]:
            vector = reference.vector_of_nested(form, tree)
            self.assertEqual(reference.product_with(as_fractions(told), vector),
                             reference.number_in_context(form, rows, context, tree))
        return told

    def test_a_read_alone(self):
        self.assertEqual(covector(S, (), (0, ())), ((0, 1), ONE))
        self.assertEqual(covector(S, ROWS, (0, ())), ((0, 1), ONE))
        self.assertEqual(covector(MIXED_FORM, MIXED_ROWS, (2, ())), ((1, 3), (1, 6)))

    def test_one_step_and_two(self):
        # A tree of the size s in the hole makes one of the size s + 2, s + 4 and s + 6.
        for entry, more in ((0, 2), (1, 4), (2, 6)):
            for place in (0, 1):
                context = (0, (("Node", place, (entry,)),))
                self.assertEqual(self.judged(S, ROWS, context, "Tree", most=5), ((more, 1), ONE))
        context = (0, (("Node", 0, (2,)), ("Node", 1, (1,))))
        self.assertEqual(self.judged(S, ROWS, context, "Tree", most=5), ((10, 1), ONE))

    def test_entries_stand_in_the_order_of_the_other_fields(self):
        context = (0, (("Item", 1, (7, 0)), ("Pair", 1, (1,))))
        self.judged(MIXED_FORM, MIXED_ROWS, context, "Item")
        context = (2, (("Item", 2, (7, 4)), ("Item", 1, (-7, 2)), ("Box", 0, ())))
        self.judged(MIXED_FORM, MIXED_ROWS, context, "List")

    def test_random_contexts(self):
        chance = random.Random(81)
        done = 0
        while done < 150:
            kinds = reference.random_kinds(chance)
            form = reference.random_form(chance, kinds, 3, 0.5)
            rows, _ = reached(form)
            if not form[3] or not rows:
                continue
            context, kind = random_context(chance, form, rows, 4)
            self.judged(form, rows, context, kind, (0, 1), 2)
            done += len(context[1])

    def test_the_rows_need_not_be_reached_ones(self):
        rows = (("Leaf", ()), ("Leaf", ()), ("Node", (1, 0)), ("Node", (0, 2)), ("Node", (3, 2)))
        self.assertEqual(covector(S, rows, (0, (("Node", 0, (4,)),))), ((10, 1), ONE))

    def test_a_kind_of_which_there_is_no_tree(self):
        alone = (("T", (("Leaf", ()), ("Into", ("U", "T")), ("Over", ("U", "U")))),
                 ("U", (("Next", ("U",)), ("Two", ("U", "U")))))
        maps = ((((0, (), ONE),), ((0, (1, 0), (5, 1)),), ()), (((1, (0,), (2, 1)),), ()))
        form = (alone, (1, 2), maps, (("r", "T", ((3, 1),)),))
        self.assertTrue(is_form(form))
        rows = (("Leaf", ()),)
        into = (0, (("Into", 0, (0,)),))
        self.assertEqual(covector(form, rows, into), ((0, 1), (15, 1)))
        further = (0, (("Into", 0, (0,)), ("Next", 0, ())))
        self.assertEqual(covector(form, rows, further), ((30, 1), (0, 1)))
        raised(BadContext, covector, form, (), into)
        raised(BadContext, covector, form, rows, (0, (("Into", 1, (0,)),)))
        raised(BadContext, covector, form, rows, (0, (("Over", 0, (0,)),)))
        raised(BadContext, covector, form, rows, (0, (("Two", 0, (0,)),)))

    def test_96_steps_and_no_more(self):
        form = chain_form()
        self.assertEqual(covector(form, (), (0, next_steps(96))), ((1 + 2 * 96, 1), (2, 1)))
        raised(BadContext, covector, form, (), (0, next_steps(97)))
        raised(BadContext, covector, form, (), (0, next_steps(300)))

    def test_great_integers_and_fractions_as_entries_of_number_fields(self):
        form = chain_form()
        many = 10 ** 40
        self.assertEqual(covector(form, (), (0, (("Mark", 1, (many,)),))), ((2 * many + 1, 1), (2, 1)))
        raised(BadContext, covector, form, (), (0, (("Mark", 1, ((1, 2),)),)))

    def test_wide_forms(self):
        kinds, (dim,), ((leaf, node),), reads = S
        wide = (kinds, (32,), ((leaf, node + ((31, (31, 0), ONE),)),),
                (("r", "Tree", ((0, 1),) * 31 + (ONE,)),))
        self.assertFalse(is_form(wide))
        told = covector(wide, ROWS, (0, (("Node", 0, (1,)),)))
        self.assertEqual(told, ((0, 1),) * 31 + (ONE,))
        raised(BadForm, covector, dims_form(33), (), (0, ()))


class BadContexts(unittest.TestCase):

    def refused(self, form, rows, context):
        raised(BadContext, covector, form, rows, context)

    def test_things_that_are_no_contexts(self):
        for thing in NEVER:
            self.refused(S, ROWS, thing)
            self.refused(S, ROWS, (0, (thing,)))
            self.refused(S, ROWS, (0, ((thing, 0, (0,)),)))
            self.refused(S, ROWS, (0, (("Node", 0, thing),)))
            self.refused(S, ROWS, (0, (("Node", 0, (thing,)),)) if type(thing) is not int else None)
            self.refused(S, ROWS, (thing, ()) if type(thing) is not int else None)
            self.refused(S, ROWS, (0, (("Node", thing, (0,)),)) if type(thing) is not int else None)
            self.refused(S, ROWS, (0, thing) if thing is not NEVER[11] else None)

    def test_another_thing_at_each_place(self):
        context = (0, (("Item", 1, (7, 0)), ("Pair", 1, (1,)), ("Box", 0, ()), ("Item", 2, (7, 1))))
        covector(MIXED_FORM, MIXED_ROWS, context)
        for version in spoilt(context):
            self.refused(MIXED_FORM, MIXED_ROWS, version)

    def test_reads_that_are_not_there(self):
        for read in (-1, 3, 10 ** 30):
            self.refused(MIXED_FORM, MIXED_ROWS, (read, ()))
        self.refused((PAIRS, *S[1:3], ()), ROWS, (0, ()))

    def test_steps_that_do_not_fit(self):
        right = ("Item", 1, (7, 0))
        for step in (("Item", 0, (1, 0)), ("Item", 3, (7, 1)), ("Item", -1, (7, 1)),
                     ("Item", -2, (7, 0)), ("Item", 1, (7,)), ("Item", 1, (7, 0, 0)),
                     ("Item", 1, (7, 1)), ("Item", 1, (7, 5)), ("Item", 1, (7, -1)),
                     ("Item", 1, (7, -5)), ("Item", 2, (7, 0)), ("End", 0, ()), ("Item", 1, (0, 7)),
                     ("Pair", 0, (1,)), ("Other", 0, ()), ("List", 0, ()), ("Item", 1, (True, 0)),
                     ("Item", 1, (7, False)), ("Item", True, (7, 0)), (right,), right + ((),)):
            self.refused(MIXED_FORM, MIXED_ROWS, (0, (step,)))
        covector(MIXED_FORM, MIXED_ROWS, (0, (right,)))
        self.refused(MIXED_FORM, MIXED_ROWS, (0, (right, right)))
        self.refused(MIXED_FORM, MIXED_ROWS, (1, (right,)))
        self.refused(MIXED_FORM, MIXED_ROWS, (0, right))
        self.refused(MIXED_FORM, MIXED_ROWS, (0, (right,), ()))
        self.refused(MIXED_FORM, MIXED_ROWS, (0,))

    def test_entries_lead_to_the_rows_that_go_with_the_context(self):
        context = (0, (("Node", 0, (1,)),))
        covector(S, ROWS[:2], context)
        self.refused(S, ROWS[:1], context)
        self.refused(S, (), context)

    def test_errors_in_their_order(self):
        raised(BadForm, covector, None, None, None)
        raised(BadRows, covector, S, None, None)
        raised(BadRows, covector, S, ((),), (0, ()))
        raised(BadRows, covector, S, MIXED_ROWS, (0, ()))
        raised(BadContext, covector, S, ROWS, None)

    def test_vectors_and_covectors_are_multiplied(self):
        told = covector(MIXED_FORM, MIXED_ROWS, (0, (("Item", 1, (7, 0)),)))
        vector = vectors(MIXED_FORM, MIXED_ROWS)[4]
        number = reference.product_with(as_fractions(told), as_fractions(vector))
        tree = reference.nested_rows(MIXED, MIXED_ROWS)[4]
        self.assertEqual(number, reference.number_in_context(
            MIXED_FORM, MIXED_ROWS, (0, (("Item", 1, (7, 0)),)), tree))


if __name__ == "__main__":
    unittest.main()
