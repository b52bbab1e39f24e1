"""Point [10]: what a checked program tells of a tree."""

import random
import unittest

from sameontrees.checks import check, tell
from sameontrees.errors import BadName, BadProgram, BadTree, NotChecked
from sameontrees.programs import read_program
from tests import reference
from tests.common import CHAIN, MIXED, NEVER, chain, raised

SUM = read_program("kind Tree { Leaf ( ) Node ( Tree , number , Tree ) } fun sum ( Tree ) "
                   "{ Leaf ( ) = 0 ; Node ( l , n , r ) = ( sum ( l ) + n + sum ( r ) ) ; }")
TREE = ("Node", "Node", "Leaf", 2, "Leaf", 5, "Leaf")

LISTS = """
kind List { End ( ) Item ( number , Item , List ) }
kind Item { One ( number ) Pair ( Item , Item ) Box ( List ) }
fun mixed ( List ) {
  End ( ) = 3 / 7 ;
  Item ( n , i , l ) = ( n + ( many ( i ) * mixed ( l ) * -2 / 3 ) + ( n * many ( i ) ) ) ;
}
fun many ( Item ) { One ( n ) = ( n * -1 ) ; Pair ( a , b ) = ( many ( b ) + 1 / 2 + many ( a ) ) ;
  Box ( l ) = ( 5 * mixed ( l ) ) ; }
fun other ( List ) { End ( ) = 1 ; Item ( n , i , l ) = other ( l ) ; }
"""


def chained(e, zero="1"):
    """A program over CHAIN with this expression for Next."""
    return read_program("kind Nat { Zero ( ) Next ( Nat ) Mark ( number , Nat ) } fun f ( Nat ) "
                        f"{{ Zero ( ) = {zero} ; Next ( x ) = {e} ; Mark ( n , x ) = "
                        "( n * f ( x ) ) ; } fun g ( Nat ) { Zero ( ) = 0 ; Next ( x ) = "
                        "( 1 + g ( x ) ) ; Mark ( n , x ) = ( n + f ( x ) ) ; }")


class Told(unittest.TestCase):

    def test_the_example(self):
        self.assertEqual(tell(SUM, "sum", TREE), (7, 1))
        self.assertEqual(tell(SUM, "sum", ("Leaf",)), (0, 1))
        self.assertEqual(tell(SUM, "sum", ("Node", "Leaf", -5, "Leaf")), (-5, 1))

    def test_functions_that_ask_each_other_about_fields_of_several_kinds(self):
        program = read_program(LISTS)
        self.assertIsNone(check(program))
        self.assertEqual(tell(program, "mixed", ("End",)), (3, 7))
        # 4 + -7 * 3/7 * -2/3 + 4 * -7
        self.assertEqual(tell(program, "mixed", ("Item", 4, "One", 7, "End")), (-22, 1))
        self.assertEqual(tell(program, "many", ("Pair", "One", 3, "Box", "End")), (-5, 14))
        self.assertEqual(tell(program, "other", ("Item", 4, "One", 7, "End")), (1, 1))

    def test_equal_trees_as_by_the_words_of_the_document(self):
        program = read_program(LISTS)
        for kind, names in (("List", ("mixed", "other")), ("Item", ("many",))):
            for size in range(1, 5):
                for tree in reference.trees_of_size(MIXED, kind, size, (0, 1, -3)):
                    words = reference.words_of_nested(tree)
                    for name in names:
                        told = reference.told_of_nested(program, name, tree)
                        self.assertEqual(tell(program, name, words), reference.ratio(told))

    def test_equal_parts_of_which_unlike_functions_are_asked(self):
        program = read_program(
            "kind T { L ( ) N ( T , T ) } fun a ( T ) { L ( ) = 1 ; N ( x , y ) = "
            "( a ( x ) + b ( y ) ) ; } fun b ( T ) { L ( ) = 10 ; N ( x , y ) = b ( x ) ; }")
        pair = ("N", "L", "L")
        self.assertEqual(tell(program, "a", pair), (11, 1))
        self.assertEqual(tell(program, "a", ("N", *pair, *pair)), (21, 1))
        self.assertEqual(tell(program, "b", ("N", *pair, *pair)), (10, 1))

    def test_trees_of_400_words(self):
        counted = chained("( 1 + f ( x ) )")
        self.assertEqual(tell(counted, "f", chain(400)), (400, 1))
        doubled = chained("( f ( x ) * 2 / 3 )", "5 / 7")
        told = reference.Fraction(5, 7) * reference.Fraction(2, 3) ** 399
        self.assertEqual(tell(doubled, "f", chain(400)), reference.ratio(told))
        raised(BadTree, tell, counted, "f", chain(401))

    def test_great_integers_and_fractions(self):
        self.assertEqual(tell(chained("f ( x )"), "f", ("Mark", 10 ** 60, "Mark", -3, "Zero")),
                         (-3 * 10 ** 60, 1))
        halves = chained("( f ( x ) * 1 / 1000000000 )", "-999999999 / 1000000000")
        self.assertEqual(tell(halves, "f", ("Next", "Next", "Zero")), (-999999999, 10 ** 27))
        self.assertEqual(tell(halves, "f", ("Mark", 10 ** 30, "Next", "Zero")),
                         (-999999999 * 10 ** 12, 1))

    def test_ratios_are_in_lowest_terms(self):
        program = read_program("kind T { A ( number ) B ( ) } fun f ( T ) { A ( n ) = ( 1 / 6 + "
                               "( n * 1 / 10 ) ) ; B ( ) = ( 2 / 3 * 3 / 2 * ( 1 / 2 + -1 / 2 ) ) ; }")
        self.assertEqual(tell(program, "f", ("A", 1)), (4, 15))
        self.assertEqual(tell(program, "f", ("A", -5)), (-1, 3))
        self.assertEqual(tell(program, "f", ("A", 3)), (7, 15))
        self.assertEqual(tell(program, "f", ("B",)), (0, 1))

    def test_functions_over_random_trees(self):
        chance = random.Random(11)
        program = chained("( f ( x ) + ( 2 / 3 * ( g ( x ) + -1 ) ) )")
        for _ in range(30):
            words = ["Zero"]
            for _ in range(chance.randint(0, 12)):
                words[:0] = chance.choice((["Next"], ["Mark", chance.randint(-3, 3)]))
            tree = reference.parsed(CHAIN, words)
            for name in ("f", "g"):
                told = reference.told_of_nested(program, name, tree)
                self.assertEqual(tell(program, name, tuple(words)), reference.ratio(told))


class Wrong(unittest.TestCase):

    def test_each_error(self):
        for thing in NEVER:
            raised(BadProgram, tell, thing, "sum", TREE)
            raised(BadName, tell, SUM, thing, TREE)
            raised(BadTree, tell, SUM, "sum", thing)
        for name in ("Sum", "sums", "tree", "Tree", "Leaf", "n", ("sum",)):
            raised(BadName, tell, SUM, name, TREE)
        for words in (TREE[:-1], TREE + ("Leaf",), ("Node", "Leaf", True, "Leaf"), list(TREE)):
            raised(BadTree, tell, SUM, "sum", words)

    def test_a_tree_of_another_kind(self):
        program = read_program(LISTS)
        raised(BadTree, tell, program, "mixed", ("One", 1))
        raised(BadTree, tell, program, "many", ("End",))

    def test_their_order(self):
        wrong = (SUM[0], SUM[1] * 2)
        self.assertEqual(raised(NotChecked, tell, wrong, None, None).what, ("double", "sum"))
        self.assertEqual(raised(NotChecked, tell, wrong, "sum", TREE).what, ("double", "sum"))
        raised(BadProgram, tell, wrong + (1,), None, None)
        raised(BadName, tell, SUM, None, None)
        raised(BadTree, tell, SUM, "sum", None)


if __name__ == "__main__":
    unittest.main()
