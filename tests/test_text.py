"""Point [11]: programs written as text and read from text."""

import random
import unittest

from sameontrees.errors import BadText
from sameontrees.programs import is_program, read_program, write_program
from tests.common import BINARY, CHAIN, MIXED, NEVER, raised

EXAMPLE = ("kind Tree { Leaf ( ) Node ( Tree , number , Tree ) } fun sum ( Tree ) { Leaf ( ) = 0 ; "
           "Node ( l , n , r ) = ( sum ( l ) + n + sum ( r ) ) ; }")
EXAMPLE_PROGRAM = (BINARY, (("sum", "Tree", (
    ("Leaf", (), ("num", (0, 1))),
    ("Node", ("l", "n", "r"), ("sum", (
        ("call", "sum", "l"), ("field", "n"), ("call", "sum", "r")))),
)),))

HEAD = "kind T { L ( ) N ( T , number ) } fun f ( T ) { L ( ) = "
TAIL = " ; }"


def program_with(e):
    """The program of HEAD, the text of e, and TAIL."""
    kinds = (("T", (("L", ()), ("N", ("T", "number")))),)
    return (kinds, (("f", "T", (("L", (), e),)),))


class Written(unittest.TestCase):

    def test_the_example(self):
        self.assertEqual(read_program(EXAMPLE), EXAMPLE_PROGRAM)
        self.assertEqual(write_program(EXAMPLE_PROGRAM), EXAMPLE)

    def test_each_sort_of_expressions(self):
        zero = ("num", (0, 1))
        for e, words in (
            (zero, "0"), (("num", (7, 1)), "7"), (("num", (-7, 1)), "-7"),
            (("num", (10 ** 9, 1)), "1000000000"), (("num", (-10 ** 9, 1)), "-1000000000"),
            (("num", (3, 2)), "3 / 2"), (("num", (-3, 2)), "-3 / 2"),
            (("num", (1, 10 ** 9)), "1 / 1000000000"), (("num", (-1, 10 ** 9)), "-1 / 1000000000"),
            (("field", "x"), "x"), (("call", "f", "x"), "f ( x )"),
            (("sum", (zero, ("field", "x"))), "( 0 + x )"),
            (("product", (zero, ("field", "x"), zero)), "( 0 * x * 0 )"),
            (("sum", (("sum", (zero, zero)), zero)), "( ( 0 + 0 ) + 0 )"),
            (("product", (zero, ("sum", (zero, ("product", (zero, zero)))))),
             "( 0 * ( 0 + ( 0 * 0 ) ) )"),
            (("sum", (("call", "num", "sum"), ("num", (-1, 2)))), "( num ( sum ) + -1 / 2 )"),
        ):
            self.assertEqual(write_program(program_with(e)), HEAD + words + TAIL)
            self.assertEqual(read_program(HEAD + words + TAIL), program_with(e))

    def test_kinds_alone(self):
        for kinds, text in (
            (BINARY, "kind Tree { Leaf ( ) Node ( Tree , number , Tree ) }"),
            (CHAIN, "kind Nat { Zero ( ) Next ( Nat ) Mark ( number , Nat ) }"),
            (MIXED, "kind List { End ( ) Item ( number , Item , List ) } "
                    "kind Item { One ( number ) Pair ( Item , Item ) Box ( List ) }"),
        ):
            self.assertEqual(write_program((kinds, ())), text)
            self.assertEqual(read_program(text), (kinds, ()))

    def test_functions_without_cases_and_cases_of_what_is_not_there(self):
        program = (BINARY, (("f", "No", ()), ("f", "Tree", (
            ("No", ("x", "x", "y"), ("field", "z")), ("No", (), ("call", "g", "z"))))))
        text = ("kind Tree { Leaf ( ) Node ( Tree , number , Tree ) } fun f ( No ) { } "
                "fun f ( Tree ) { No ( x , x , y ) = z ; No ( ) = g ( z ) ; }")
        self.assertEqual(write_program(program), text)
        self.assertEqual(read_program(text), program)

    def test_there_and_back(self):
        chance = random.Random(11)
        for _ in range(300):
            program = some_program(chance)
            self.assertIs(is_program(program), True)
            text = write_program(program)
            self.assertEqual(" ".join(text.split()), text)
            self.assertEqual(read_program(text), program)
            self.assertEqual(read_program(spaced(chance, text)), program)
            self.assertEqual(read_program(tightened(text)), program)

    def test_programs_at_the_bounds(self):
        zero = ("num", (0, 1))
        e = ("field", "x")
        for _ in range(19):
            e = ("sum", (e, zero))
        wide = ("product", (("sum", (zero,) * 60),) * 49 + (zero,) * 10)
        kinds = tuple((f"K{k}", tuple((f"M{k}{m}", ("number", f"K{5 - k}", "K0", "K5"))
                                      for m in range(6))) for k in range(6))
        case = ("Abcdefghij", ("abcdefghij",) * 4, e)
        program = (kinds, (("abcdefghij", "Abcdefghij", (case,) * 6),
                           ("f", "T", (("L", (), wide),))) * 30)
        self.assertEqual(read_program(write_program(program)), program)


class Spacing(unittest.TestCase):

    def test_blanks_and_line_feeds(self):
        for text in ("  " + EXAMPLE + "\n\n", EXAMPLE.replace(" ", "\n"),
                     EXAMPLE.replace(" ", " \n  "), tightened(EXAMPLE)):
            self.assertEqual(read_program(text), EXAMPLE_PROGRAM)

    def test_words_that_touch(self):
        head = "kind T{L()N(T,number)}fun f(T){L()="
        for words, e in (
            ("(1+-2)", ("sum", (("num", (1, 1)), ("num", (-2, 1))))),
            ("(1*-2/3)", ("product", (("num", (1, 1)), ("num", (-2, 3))))),
            ("(x+f(x))", ("sum", (("field", "x"), ("call", "f", "x")))),
        ):
            self.assertEqual(read_program(head + words + ";}"), program_with(e))

    def test_words_of_letters_and_digits_need_something_between(self):
        raised_at(self, "kindT{L()}", 0)
        raised_at(self, "kind T{L()}funf(T){}", 11)
        raised_at(self, "kind T{L()}fun f2(T){L()=1x;}", 25)
        raised_at(self, "kind T{L()}fun f2(T){L()=12 3;}", 28)

    def test_no_other_spaces(self):
        for sign in "\t\r\x0b\x0c\u00a0":
            raised_at(self, "kind" + sign + "T { L ( ) }", 4)
            raised_at(self, sign + EXAMPLE, 0)
            raised_at(self, EXAMPLE + sign, len(EXAMPLE))
            raised_at(self, EXAMPLE + " " + sign + " ", len(EXAMPLE) + 1)


def raised_at(case, text, place):
    """Fails where read_program does not raise BadText with just this place."""
    case.assertEqual(raised(BadText, read_program, text).place, place, text)


class Places(unittest.TestCase):

    def wrong(self, before, word, behind=""):
        """The word can not stand behind HEAD and before, whatever is behind it."""
        for text in (HEAD + before + word, HEAD + before + word + behind + TAIL,
                     HEAD + before + word + " %", HEAD + before + word + "  \n "):
            raised_at(self, text, len(HEAD + before))

    def right(self, expression):
        """The expression can stand behind HEAD."""
        self.assertIs(is_program(read_program(HEAD + expression + TAIL)), True)

    def test_what_is_no_str(self):
        for thing in NEVER:
            if not isinstance(thing, str):
                raised_at(self, thing, 0)
        raised_at(self, EXAMPLE.encode(), 0)
        raised_at(self, [EXAMPLE], 0)

    def test_texts_without_words(self):
        for text in ("", " ", "\n", "  \n\n  "):
            raised_at(self, text, len(text))

    def test_signs_that_are_none(self):
        for sign in "!\"#$%&'.:<>?@[\\]^_`|~\t\u00b2\u0663\u00e9":
            self.wrong("", sign)
            self.wrong("( 1 + 2 ", sign)
            self.wrong("( 1 + ", sign)
            self.wrong("( 1 / ", sign)
            self.wrong("( 1 + x", sign)
            raised_at(self, sign, 0)
            raised_at(self, "kind T" + sign + " { L ( ) }", 6)
            raised_at(self, "kind " + sign + "T { L ( ) }", 5)

    def test_the_words_that_may_follow(self):
        for before, allowed in FOLLOW:
            for word in WORDS:
                text = before + " " + word + " \n "
                place = len(text) if word in allowed.split() else len(before) + 1
                try:
                    read_program(text)
                except BadText as error:
                    self.assertEqual(error.place, place, text)
                else:
                    self.assertIn(word, "}")
                    self.assertEqual(place, len(text), text)

    def test_each_word_in_turn(self):
        words = EXAMPLE.split(" ")
        for at in range(len(words)):
            before = " ".join(words[:at]) + " " * (at > 0)
            for word in (".", "-", "007", "2kind"):
                raised_at(self, before + word + " " + " ".join(words[at:]), len(before))
            # Only behind a kind the text may end.
            if words[at] != "fun":
                raised_at(self, before, len(before))
                raised_at(self, before + "\n  ", len(before) + 3)

    def test_words_behind_the_last_one(self):
        for word in ("}", "kind", "Tree", "0", ";", "(", "number", "f"):
            raised_at(self, EXAMPLE + " " + word, len(EXAMPLE) + 1)
            raised_at(self, EXAMPLE + word, len(EXAMPLE))

    def test_kinds_come_first(self):
        raised_at(self, "fun f ( T ) { }", 0)
        raised_at(self, EXAMPLE + "\nkind T { L ( ) }", len(EXAMPLE) + 1)

    def test_numerals(self):
        for numeral in ("0", "1", "-1", "9", "10", "1000000000", "-1000000000", "999999999"):
            self.right(numeral)
            self.right(numeral.join(("( ", " + 1 )")))
        for numeral in ("1000000001", "-1000000001", "2000000000", "10000000000", "9" * 5000,
                        "-" + "9" * 5000, "00", "01", "007", "-0", "-00", "-01", "0000000001",
                        "0" * 5000, "1a", "0x1", "-1a", "-a", "--1", "-", "- 1", "-(1)", "-\n1",
                        "+1", "1e5"):
            self.wrong("", numeral)
            self.wrong("( 1 + ", numeral, " )")
            self.wrong("( 1 * ( x + f ( x ) + ", numeral, " ) )")

    def test_numerals_behind_a_stroke(self):
        for words in ("1 / 2", "-1 / 2", "1/2", "3 / 1000000000", "1000000000 / 3", "-7 / 3", "4 / 9"):
            self.right(words)
        for top, bottom in (("1", "1"), ("1", "0"), ("0", "0"), ("0", "1"), ("0", "2"), ("0", "7"),
                            ("2", "4"), ("-2", "4"), ("4", "2"), ("6", "9"), ("-6", "9"), ("3", "3"),
                            ("1", "-2"), ("1", "-1"), ("1", "-0"), ("1", "02"), ("1", "1000000001"),
                            ("1", "-"), ("1", "x"), ("1", "("), ("1", "/"), ("1", ";"),
                            ("1000000000", "1000000000"), ("1", "9" * 5000), ("1", "number")):
            self.wrong(top + " / ", bottom)
            self.wrong(top + "/", bottom)
            self.wrong("( x + " + top + " /\n", bottom, " )")
        self.wrong("1 / 2 ", "/", " 3")
        self.wrong("x ", "/", " 2")

    def test_names(self):
        self.right("abcdefghij")
        self.right("a123456789 ( abcdefghij )")
        for name in ("abcdefghijk", "a1234567890", "a" * 5000, "fun", "kind", "number", "X", "Leaf",
                     "1x", "_y"):
            self.wrong("", name)
            self.wrong("( x * ", name, " )")
            self.wrong("f ( ", name, " )")
        for at, name in ((5, "Abcdefghijk"), (5, "t"), (5, "tree"), (5, "number"), (5, "kind")):
            raised_at(self, "kind " + name + " { L ( ) }", at)
            raised_at(self, "kind T { " + name + " ( ) }", 9)
            raised_at(self, "kind T { L ( ) } fun f ( " + name + " ) { }", 25)
            raised_at(self, "kind T { L ( ) } fun f ( T ) { " + name + " ( ) = 0 ; }", 31)
        for name in ("T", "Abc", "abcdefghijk", "fun", "number", "kind"):
            raised_at(self, "kind T { L ( ) } fun " + name + " ( T ) { }", 21)
            raised_at(self, "kind T { L ( ) } fun f ( T ) { L ( " + name + " ) = 0 ; }", 35)
        for name in ("t", "fun", "kind", "Abcdefghijk"):
            raised_at(self, "kind T { L ( " + name + " ) }", 13)
            raised_at(self, "kind T { L ( number , " + name + " ) }", 22)

    def test_parts_have_one_sign(self):
        self.wrong("( 1 + 2 ", "*", " 3 )")
        self.wrong("( 1 * 2 ", "+", " 3 )")
        self.wrong("( 1 + 2 + 3 ", "*", " 4 )")
        self.wrong("( 1 * ( 2 + 3 ) ", "+", " 4 )")
        self.wrong("( 1 ", "-2", " )")
        self.wrong("( x", "-2", " )")

    def test_one_part_is_none(self):
        self.wrong("( 1 ", ")")
        self.wrong("( ", ")")
        self.wrong("( ( 1 + 2 ) ", ")")
        self.wrong("( 1 + ", ")")

    def test_a_kind_and_a_maker_must_stand(self):
        raised_at(self, "kind T { }", 9)
        raised_at(self, "kind T { L ( ) } kind S { } fun f ( T ) { }", 26)

    def test_the_hundredth_open_bracket(self):
        # One bracket is open where the expression begins.
        for many in (1, 19, 97, 98):
            before = "( " * many
            for word in ("1", "x", "f"):
                raised_at(self, HEAD + before + word, len(HEAD + before + word))
            raised_at(self, HEAD + before + ")", len(HEAD + before))
        self.wrong("( " * 98, "(", " 1")
        self.wrong("( 1 + " * 98, "(", " 1")
        self.wrong("( ( 1 + 2 ) * " * 97 + "( ", "(", " 1")
        self.wrong("( " * 98 + "f ", "(", " x )")
        raised_at(self, HEAD + "( " * 97 + "f ( x )", len(HEAD) + 2 * 97 + 7)
        raised_at(self, HEAD + "(" * 5000, len(HEAD) + 98)
        raised_at(self, HEAD + "{", len(HEAD))

    def test_brackets_that_are_closed_do_not_count(self):
        self.right("( " + " + ".join(["( 1 + f ( x ) )"] * 60) + " )")
        text = "kind T { " + "L ( ) " * 200 + "}"
        raised_at(self, text, len(text))

    def test_all_words_fit_but_there_is_no_program(self):
        whole = HEAD + "( 0 + " * 97 + "f ( x )" + " )" * 97 + TAIL
        raised_at(self, whole, len(whole))
        for many in (20, 21, 22):
            words = "( 0 + " * (many - 1) + "0" + " )" * (many - 1)
            self.ends(HEAD + words + TAIL, many <= 20)
        for many in (1, 6, 7, 50):
            kinds = [f"kind K{k} {{ M{k} ( ) }}" for k in range(many)]
            self.ends(" ".join(kinds), many <= 6)
            self.ends("kind T { " + " ".join(f"M{k} ( )" for k in range(many)) + " }", many <= 6)
            cases = "L ( ) = 0 ; " * many
            self.ends("kind T { L ( ) } fun f ( T ) { " + cases + "}", many <= 6)
        for many in (1, 4, 5, 50):
            fields = " , ".join(["number"] * many)
            self.ends("kind T { L ( " + fields + " ) }", many <= 4)
            names = " , ".join(["x"] * many)
            self.ends("kind T { L ( ) } fun f ( T ) { L ( " + names + " ) = 0 ; }", many <= 4)
        for many in (2, 60, 61, 500):
            for sign in (" + ", " * "):
                self.ends(HEAD + "( " + sign.join(["0"] * many) + " )" + TAIL, many <= 60)
        for many in (60, 61):
            self.ends("kind T { L ( ) }" + " fun f ( T ) { }" * many, many <= 60)

    def test_three_thousand_expressions(self):
        group = "( " + " + ".join(["0"] * 60) + " )"
        for rest in (10, 11):
            words = "( " + " * ".join([group] * 49 + ["0"] * rest) + " )"
            self.ends(HEAD + words + TAIL, rest == 10)

    def test_kinds_that_do_not_fit_together(self):
        for text in ("kind T { L ( S ) }", "kind T { L ( ) } kind T { M ( ) }",
                     "kind T { L ( ) L ( ) }", "kind T { L ( ) } kind S { L ( ) }",
                     "kind T { L ( L ) }"):
            self.ends(text, False)
        self.ends("kind T { T ( T ) }", True)

    def ends(self, text, right):
        """The words of the text all fit; whether it is a program is right."""
        for behind in ("", " ", "\n \n"):
            if right:
                self.assertIs(is_program(read_program(text + behind)), True)
            else:
                raised_at(self, text + behind, len(text + behind))


# One word of each sort, and for the words ahead those of them that may follow.
WORDS = ("( ) { } , = ; + * / fun kind number low High 0 1 2 5 9 -1 -4 -0 - 00 1000000001 . "
         "abcdefghijk Abcdefghijk 1a").split()
START = "kind T { L ( T , number )"
FUN = START + " } fun f ( T ) {"
CASE = FUN + " L ( x ) ="
EXPRESSION = "( low 0 1 2 5 9 -1 -4"
FOLLOW = (
    ("", "kind"), ("kind", "High"), ("kind T", "{"), ("kind T {", "High"), ("kind T { L", "("),
    ("kind T { L (", ") number High"), ("kind T { L ( T", ") ,"), ("kind T { L ( number", ") ,"),
    ("kind T { L ( T ,", "number High"), (START, "} High"), (START + " }", "kind fun"),
    (START + " } fun", "low"), (START + " } fun f", "("), (START + " } fun f (", "High"),
    (START + " } fun f ( T", ")"), (START + " } fun f ( T )", "{"), (FUN, "} High"),
    (FUN + " }", "fun"), (FUN + " L", "("), (FUN + " L (", ") low"), (FUN + " L ( x", ") ,"),
    (FUN + " L ( x ,", "low"), (FUN + " L ( )", "="), (FUN + " L ( x )", "="),
    (CASE, EXPRESSION), (CASE + " (", EXPRESSION), (CASE + " ( x +", EXPRESSION),
    (CASE + " ( x + 1", "+ ) /"), (CASE + " ( x * 1", "* ) /"), (CASE + " ( x + x", "+ ) ("),
    (CASE + " ( x", "+ * ("), (CASE + " ( 1", "+ * /"), (CASE + " ( f ( x )", "+ *"),
    (CASE + " ( ( 1 + 1 )", "+ *"), (CASE + " ( 1 * 1 / 2", "* )"), (CASE + " ( 1 / 2", "+ *"),
    (CASE + " x", "( ;"), (CASE + " f (", "low"), (CASE + " f ( x", ")"), (CASE + " f ( x )", ";"),
    (CASE + " 1", "/ ;"), (CASE + " 0", "/ ;"), (CASE + " 0 /", ""), (CASE + " 1 /", "2 5 9"),
    (CASE + " 5 /", "2 9"), (CASE + " -6 /", "5"), (CASE + " 1 / 2", ";"),
    (CASE + " ( 1 + 1 )", ";"), (CASE + " x ;", "} High"), (CASE + " x ; }", "fun"),
)


def some_name(chance, first):
    """A name that begins with one of the signs."""
    signs = "abcXYZ019"
    return chance.choice(first) + "".join(chance.choice(signs) for _ in range(chance.randrange(10)))


def some_expression(chance, deep):
    """An expression with chains of at most deep."""
    sort = chance.randrange(5 if deep > 1 else 3)
    low = "abxyz"
    if sort == 0:
        top, bottom = chance.choice(((0, 1), (5, 1), (-5, 1), (1, 2), (-7, 3), (10 ** 9, 7)))
        return ("num", (top, bottom))
    if sort == 1:
        return ("field", some_name(chance, low))
    if sort == 2:
        return ("call", some_name(chance, low), some_name(chance, low))
    parts = tuple(some_expression(chance, deep - 1) for _ in range(chance.randrange(2, 5)))
    return (chance.choice(("sum", "product")), parts)


def some_program(chance):
    """A program with whatever functions."""
    functions = []
    for _ in range(chance.randrange(4)):
        cases = []
        for _ in range(chance.randrange(7)):
            names = tuple(some_name(chance, "abc") for _ in range(chance.randrange(5)))
            cases.append((some_name(chance, "ABC"), names, some_expression(chance, 5)))
        functions.append((some_name(chance, "abc"), some_name(chance, "ABC"), tuple(cases)))
    return (chance.choice((BINARY, CHAIN, MIXED)), tuple(functions))


def spaced(chance, text):
    """The text with any blanks and line feeds where one blank was, and at its ends."""
    words = text.split(" ")
    out = chance.choice(("", " ", "\n"))
    for word in words:
        out += word + chance.choice((" ", "\n", "  ", " \n ", "\n\n"))
    return out


def tightened(text):
    """The text with blanks only where letters or digits would touch."""
    out = ""
    for word in text.split(" "):
        out += " " * (out[-1:].isalnum() and word[0].isalnum()) + word
    return out


if __name__ == "__main__":
    unittest.main()
