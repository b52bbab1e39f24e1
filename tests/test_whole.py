"""Point [40], and what holds over the whole program."""

import random
import unittest

from sameontrees.checks import check, tell
from sameontrees.equal import is_part, joint, same, same_log
from sameontrees.errors import BadText, NotChecked, TooGreat, Unlike
from sameontrees.forms import formed, number, program_of
from sameontrees.learning import Teacher, learn
from sameontrees.least import least, tables
from sameontrees.logs import replayed
from sameontrees.programs import read_program, write_program
from sameontrees.reached import reached
from sameontrees.rewriters import composed
from sameontrees.sums import counts, product_form, sums
from sameontrees.trees import words_of
from sameontrees.whole import lessened, settled
from tests import reference
from tests.common import NEVER, raised
from tests.disguise import with_copies

TREE = "kind Tree { Leaf ( ) Node ( Tree , number , Tree ) }"
SUM = "fun sum ( Tree ) { Leaf ( ) = 0 ; Node ( l , n , r ) = ( sum ( l ) + n + sum ( r ) ) ; }"
TURNED = "fun sum ( Tree ) { Leaf ( ) = 0 ; Node ( l , n , r ) = ( sum ( r ) + n + sum ( l ) ) ; }"
OTHER = "fun sum ( Tree ) { Leaf ( ) = 0 ; Node ( l , n , r ) = ( sum ( l ) + ( 2 * n ) + sum ( r ) ) ; }"
ONE = f"{TREE} {SUM}"
PROBE = f"{TREE} fun sum ( Tree ) {{ Leaf ( ) = 0 ; Node ( l , n , r ) = sum ( m ) ; }}"


def great_text(many, name="f"):
    """A text with so many functions of one kind, each told by the first one."""
    functions = [f"fun {name}{at} ( T ) {{ Leaf ( ) = {at} ; Next ( t ) = {name}0 ( t ) ; }}"
                 for at in range(many)]
    return "kind T { Leaf ( ) Next ( T ) } " + " ".join(functions)


class Settled(unittest.TestCase):

    def judged(self, text, other):
        """The log between two texts that tell the same."""
        told = settled(text, other)
        self.assertEqual((len(told), told[0]), (2, "same"))
        one, two = formed(read_program(text)), formed(read_program(other))
        self.assertEqual(told[1], same_log(one, two))
        self.assertEqual(replayed(one, told[1]), two)
        self.assertEqual(lessened(text), lessened(other))
        return told[1]

    def parted(self, text, other):
        """What parts two texts."""
        told = settled(text, other)
        one, two = read_program(text), read_program(other)
        self.assertEqual(told, same(formed(one), formed(two)))
        _, name, rows, left, right = told
        words = words_of(one[0], rows)
        self.assertEqual((tell(one, name, words), tell(two, name, words)), (left, right))
        self.assertNotEqual(left, right)
        self.assertNotEqual(lessened(text), lessened(other))
        return told

    def test_texts_that_tell_the_same(self):
        self.assertEqual(self.judged(ONE, ONE), ())
        self.assertEqual(self.judged(ONE, f"\n{TREE}   {TURNED}\n"), ())
        # The forms are unlike: the one tells the number by one more step of each chain.
        zero = "kind Nat { Zero ( ) Next ( Nat ) } "
        one = zero + ("fun a ( Nat ) { Zero ( ) = 0 ; Next ( n ) = b ( n ) ; }"
                      "fun b ( Nat ) { Zero ( ) = 1 ; Next ( n ) = a ( n ) ; }")
        two = zero + ("fun a ( Nat ) { Zero ( ) = 0 ; Next ( n ) = ( 1 + ( -1 * a ( n ) ) ) ; }"
                      "fun b ( Nat ) { Zero ( ) = 1 ; Next ( n ) = ( 1 + ( -1 * b ( n ) ) ) ; }")
        self.assertNotEqual(self.judged(one, two), ())
        self.assertNotEqual(self.judged(two, one), ())

    def test_texts_that_differ_at_one_small_tree(self):
        self.assertEqual(self.parted(ONE, f"{TREE} {OTHER}"),
                         ("part", "sum", (("Leaf", ()), ("Node", (0, 1, 0))), (1, 1), (2, 1)))
        # Only the tree of one maker is told unlike numbers, as what is told of it is not used.
        one = f"{TREE} fun top ( Tree ) {{ Leaf ( ) = 1 ; Node ( l , n , r ) = 0 ; }}"
        two = f"{TREE} fun top ( Tree ) {{ Leaf ( ) = 2/3 ; Node ( l , n , r ) = 0 ; }}"
        self.assertEqual(self.parted(one, two), ("part", "top", (("Leaf", ()),), (1, 1), (2, 3)))

    def test_texts_that_are_wrong_in_each_place(self):
        for thing in NEVER:
            if not isinstance(thing, str):
                self.assertEqual(raised(BadText, settled, thing, thing).place, 0)
                self.assertEqual(raised(BadText, settled, ONE, thing).place, 0)
                self.assertEqual(raised(BadText, lessened, thing).place, 0)
        wrong = ONE.replace("Leaf ( ) = 0", "Leaf ( ) = 00")
        place = wrong.index("00")
        for other in (ONE, wrong, None, PROBE, great_text(17)):
            self.assertEqual(raised(BadText, settled, wrong, other).place, place)
        self.assertEqual(raised(BadText, settled, ONE, wrong).place, place)
        self.assertEqual(raised(BadText, lessened, wrong).place, place)
        self.assertEqual(raised(BadText, settled, "", ONE).place, 0)
        self.assertEqual(raised(BadText, settled, ONE, TREE[:-1]).place, len(TREE) - 1)

    def test_texts_that_are_not_checked_in_each_place(self):
        for other in (ONE, PROBE, None, "", great_text(17), great_text(3)):
            self.assertEqual(raised(NotChecked, settled, PROBE, other).what, ("name", "sum"))
        self.assertEqual(raised(NotChecked, settled, ONE, PROBE).what, ("name", "sum"))
        self.assertEqual(raised(NotChecked, lessened, PROBE).what, ("name", "sum"))
        double = f"{ONE} {SUM}"
        self.assertEqual(raised(NotChecked, settled, double, PROBE).what, ("double", "sum"))

    def test_forms_that_are_too_great_in_each_place(self):
        great = great_text(16)
        self.assertEqual(settled(great_text(15), great_text(15)), ("same", ()))
        # Too great stands ahead of what is wrong with the other text.
        for other in (great, ONE, PROBE, None, "", great_text(15)):
            raised(TooGreat, settled, great, other)
        # And behind all that is wrong with the first one, but ahead of texts that are not alike.
        raised(TooGreat, settled, ONE, great)
        self.assertEqual(raised(NotChecked, settled, PROBE, great).what, ("name", "sum"))
        raised(TooGreat, lessened, great)

    def test_texts_that_are_not_alike(self):
        zero = "kind T { Leaf ( ) Next ( T ) } "
        for text, other in ((great_text(2), great_text(3)), (great_text(2), great_text(2, "g")),
                            (ONE, TREE), (ONE, ONE.replace("sum", "sums")), (ONE, great_text(1)),
                            (ONE.replace("Leaf", "Lief"), ONE), (zero, ONE),
                            (f"{TREE} {SUM} {OTHER.replace('sum', 'more')}",
                             f"{TREE} {OTHER.replace('sum', 'more')} {SUM}")):
            raised(Unlike, settled, text, other)
            raised(Unlike, settled, other, text)

    def test_by_name(self):
        self.assertEqual(settled(other=ONE, text=ONE), ("same", ()))
        self.assertEqual(lessened(text=ONE), lessened(ONE))


class Lessened(unittest.TestCase):

    def judged(self, text):
        """The lessened text, whose program tells what the text's does."""
        told = lessened(text)
        program, other = read_program(text), read_program(told)
        self.assertIsNone(check(other))
        self.assertEqual(other, program_of(least(formed(program))))
        self.assertEqual(write_program(other), told)
        self.assertEqual(other[0], program[0])
        heads = [(name, kind) for name, kind, _ in program[1]]
        self.assertEqual([(name, kind) for name, kind, _ in other[1]][:len(heads)], heads)
        trees = reference.all_trees(program[0], 3, (0, 1, -3))
        for name, kind in heads:
            for tree in trees[kind][:25]:
                words = reference.words_of_nested(tree)
                self.assertEqual(tell(other, name, words), tell(program, name, words))
        return told

    def test_one_text_for_all_that_tell_the_same(self):
        self.assertEqual(self.judged(ONE), self.judged(f"{TREE}\n\n{TURNED}"))
        self.assertNotEqual(self.judged(ONE), self.judged(f"{TREE} {OTHER}"))
        more = f"{TREE} {SUM.replace('sum', 'more')}"
        self.assertEqual(self.judged(more), self.judged(ONE).replace("sum", "more"))

    def test_drawn_programs(self):
        chance = random.Random(181)
        done = 0
        while done < 40:
            kinds = reference.random_kinds(chance, 2, 2)
            program = reference.random_program(chance, kinds, 3, 2)
            if program[1]:
                self.judged(write_program(program))
                done += 1

    def test_no_functions(self):
        self.assertEqual(self.judged(TREE), TREE)

    def test_too_great_on_the_way(self):
        # The least form's numbers are beyond those that a program may have.
        text = ("kind T { Leaf ( ) Next ( T ) } fun f ( T ) { Leaf ( ) = 1 ; Next ( t ) = "
                "( 999999999 * g ( t ) ) ; } fun g ( T ) { Leaf ( ) = 1 ; Next ( t ) = "
                "( ( 999999937 * f ( t ) ) + g ( t ) ) ; }")
        raised(TooGreat, lessened, text)
        raised(TooGreat, program_of, least(formed(read_program(text))))


class Whole(unittest.TestCase):

    def test_a_program_from_text_to_text(self):
        chance = random.Random(182)
        done = 0
        while done < 30:
            kinds = reference.random_kinds(chance, 2, 2)
            program = reference.random_program(chance, kinds, 2, 2)
            if not program[1]:
                continue
            done += 1
            text = write_program(program)
            self.assertEqual(read_program(text), program)
            self.assertEqual(settled(text, write_program(read_program(text))), ("same", ()))
            form = formed(program)
            small = least(form)
            self.assertEqual(least(formed(read_program(lessened(text))))[0], kinds)
            again = formed(read_program(lessened(text)))
            heads = len(form[3])
            self.assertEqual(least(again[:3] + (again[3][:heads],)), small)
            log = same_log(form, again[:3] + (again[3][:heads],))
            self.assertEqual(replayed(form, log), again[:3] + (again[3][:heads],))

    def test_a_learned_form_is_the_teachers_least_form(self):
        chance = random.Random(183)
        done = 0
        while done < 25:
            kinds = reference.random_kinds(chance, 2, 2)
            program = reference.random_program(chance, kinds, 2, 2)
            if program[1]:
                form = formed(program)
                told = learn(Teacher(form))
                self.assertEqual(told, least(with_copies(form)))
                self.assertEqual(replayed(form, same_log(form, told)), told)
                done += 1

    def test_the_main_property(self):
        # Forms tell the same numbers exactly if their least forms are equal.
        chance = random.Random(184)
        seen_same = seen_part = 0
        while seen_same < 25 or seen_part < 25:
            kinds = reference.random_kinds(chance, 2, 2)
            one = reference.random_form(chance, kinds, 2, 0.3)
            other = reference.random_form(chance, kinds, 2, 0.3)
            dims = dict(zip([kind for kind, _ in kinds], other[1]))
            reads = tuple((name, kind, tuple(chance.choice(((0, 1), (0, 1), (1, 1)))
                                             for _ in range(dims[kind]))) for name, kind, _ in one[3])
            other = other[:3] + (reads,)
            told = same(one, other)
            self.assertEqual(least(one) == least(other), told[0] == "same")
            if told[0] == "same":
                seen_same += 1
                self.assertEqual(replayed(one, same_log(one, other)), other)
            else:
                seen_part += 1
                self.assertTrue(is_part(one, other, told[1:]))
                _, name, rows, left, right = told
                self.assertEqual((number(one, name, rows), number(other, name, rows)), (left, right))

    def test_no_form_has_fewer_coordinates(self):
        chance = random.Random(185)
        for _ in range(30):
            kinds = reference.random_kinds(chance, 2, 2)
            form = reference.random_form(chance, kinds, 2, 0.4)
            _, found = tables(form)
            self.assertEqual(tuple(len(trees) for trees, _, _ in found), least(form)[1])
            rows, basis = reached(joint(form, least(form)))
            self.assertEqual([len(own) for own in basis], [len(own) for own in reached(form)[1]])
            self.assertEqual(rows, reached(form)[0])

    def test_rewritten_learned_and_summed(self):
        pairs = "kind Tree { Leaf ( ) Node ( Tree , Tree ) } "
        size = formed(read_program(pairs + "fun size ( Tree ) { Leaf ( ) = 1 ; Node ( l , r ) = "
                                           "( 1 + size ( l ) + size ( r ) ) ; }"))
        kinds = size[0]
        # Each leaf becomes a node of two leaves.
        grow = (kinds, kinds, (("grow", "Tree", "Tree", (
            (("Leaf", ()), ("Leaf", ()), ("Node", (0, 1))),
            (("Node", (("state", "grow", 0), ("state", "grow", 1))),))),))
        told = learn(Teacher(composed(grow, size)))
        self.assertEqual(told[3][0][:2], ("sizexgrow", "Tree"))
        # A tree of the size s has (s + 1) / 2 leaves, so it becomes one of the size 2 * s + 1.
        many = counts(size, "Tree", 21)
        self.assertEqual(sums(told, "sizexgrow", 21),
                         tuple(((2 * at + 1) * many[at], 1) for at in range(22)))
        square = least(product_form(size, size))
        self.assertEqual(square[1], (3,))
        self.assertEqual(sums(square, "sizexsize", 21),
                         tuple((at * at * many[at], 1) for at in range(22)))


if __name__ == "__main__":
    unittest.main()
