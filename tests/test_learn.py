"""Point [35]: forms learned from teachers."""

import random
import unittest

from sameontrees.errors import BadName, TooGreat
from sameontrees.forms import formed, number
from sameontrees.learning import Teacher, learn
from sameontrees.least import least
from sameontrees.programs import read_program
from sameontrees.trees import is_rows, makers_of
from tests import reference
from tests.common import (LEAVES, MIXED_FORM, PAIRS, S, dims_form, full_form, lone_form, raised)
from tests.disguise import disguised, with_copies
from tests.test_least import small_forms
from tests.wide import deep_pair, products_form, ring_form

ONE = (1, 1)
NONE = (0, 1)


class Counting(Teacher):
    """A teacher who keeps what is asked by itself, and of whom nothing but [34] is there."""

    def __init__(self, form):
        self.held = Teacher(form)
        self.numbers = []
        self.told = []

    def kinds(self):
        return self.held.kinds()

    def reads(self):
        return self.held.reads()

    def number(self, name, rows):
        told = self.held.number(name, rows)
        self.numbers.append((name, rows))
        return told

    def parts(self, form):
        told = self.held.parts(form)
        self.told.append(told)
        return told

    def asked(self):
        return (len(self.numbers), len(self.told), max([len(told[1]) for told in self.told if told],
                                                       default=0))


class Rambling(Counting):
    """A teacher who parts forms by trees with as many rows as a drawn one has, forty at most."""

    def __init__(self, form, chance, most):
        Counting.__init__(self, form)
        self.form = form
        self.chance = chance
        self.most = most

    def parts(self, form):
        told = Counting.parts(self, form)
        if told is None:
            return None
        found = [told]
        for _ in range(40):
            rows = drawn_rows(self.chance, self.form[0], self.chance.randint(1, self.most))
            for name, kind, _ in self.form[3]:
                if rows and makers_of(self.form[0])[rows[-1][0]][0] == kind:
                    if number(self.form, name, rows) != number(form, name, rows):
                        found.append((name, rows))
        told = max(found, key=lambda part: len(part[1]))
        self.told[-1] = told
        return told


class Told(Counting):
    """A teacher who parts forms by the first of the trees that are told ahead, if one does."""

    def __init__(self, form, trees):
        Counting.__init__(self, form)
        self.form = form
        self.trees = trees

    def parts(self, form):
        told = Counting.parts(self, form)
        for rows in self.trees:
            for (name, kind, _), one, other in zip(form[3], remainders(self.form, rows),
                                                   remainders(form, rows)):
                if one != other and kind == makers_of(form[0])[rows[-1][0]][0]:
                    self.told[-1] = (name, rows)
                    return (name, rows)
        return told


PRIME = 2 ** 61 - 1


def remainders(form, rows):
    """What each read tells of the rows' tree, by a prime: the numbers may be too great to write."""
    makers = reference.makers_in(form[0])
    found = []
    for maker, entries in rows:
        at, place, fields = makers[maker]
        parts = [(1, entry) if field == "number" else found[entry]
                 for field, entry in zip(fields, entries)]
        vector = [0] * form[1][at]
        for row, cols, (top, bottom) in form[2][at][place]:
            value = top * pow(bottom, -1, PRIME)
            for part, col in zip(parts, cols):
                value = value * part[col] % PRIME
            vector[row] = (vector[row] + value) % PRIME
        found.append(vector)
    return [sum(top * pow(bottom, -1, PRIME) * entry
                for (top, bottom), entry in zip(vector, found[-1])) % PRIME for _, _, vector in form[3]]


def full_tree(many):
    """So many rows of a tree with as many leaves as may be."""
    return (("Leaf", ()),) + tuple(("Node", (at, at)) for at in range(many - 1))


def drawn_rows(chance, kinds, many):
    """Rows of the kinds, that are no trees of the sequence's beginning, as many at most."""
    makers = makers_of(kinds)
    rows, of_kind = [], {}
    for _ in range(many):
        ways = [maker for maker, (_, _, fields) in makers.items()
                if all(field == "number" or field in of_kind for field in fields)]
        if ways:
            maker = chance.choice(ways)
            kind, _, fields = makers[maker]
            rows.append((maker, tuple(chance.randint(-3, 4) if field == "number"
                                      else chance.choice(of_kind[field][-3:]) for field in fields)))
            of_kind.setdefault(kind, []).append(len(rows) - 1)
    return tuple(rows)


def bound(form, asked):
    """How often number may be asked of a teacher whose least form is this one."""
    kinds, dims, _, reads = form
    widths = dict(zip([kind for kind, _ in kinds], dims))
    makers = 0
    for _, own in kinds:
        for _, fields in own:
            many = 1
            for field in fields:
                many *= widths.get(field, 2)
            makers += many
    together, rows = sum(dims), asked[2]
    return (together + 2) * (together + len(reads) + 1) * (makers + rows + 1) * (rows + 1)


class Learn(unittest.TestCase):

    def judged(self, teacher, form):
        """What is learned is the least form, and no more is asked than may be."""
        told = learn(teacher)
        self.assertEqual(told, least(form))
        asked = teacher.asked()
        together = sum(told[1])
        self.assertGreaterEqual(asked[1], 1)
        self.assertLessEqual(asked[1], together + 1)
        self.assertLessEqual(asked[0], bound(told, asked))
        self.assertGreaterEqual(asked[0], 1 if together else 0)
        return told

    def both(self, form):
        """The form is learned from a teacher, and from one who counts by itself."""
        one, other = Teacher(form), Counting(form)
        self.judged(one, form)
        self.judged(other, form)
        self.assertEqual(one.asked(), other.asked())
        self.assertEqual(other.held.asked(), other.asked())
        self.assertEqual(len(set(other.numbers)), len(other.numbers))
        for name, rows in other.numbers:
            self.assertTrue(is_rows(form[0], rows))
            self.assertIn(name, [read for read, _ in other.reads()])
        return other

    def test_the_examples(self):
        for form in (S, LEAVES, with_copies(S), MIXED_FORM):
            self.both(form)

    def test_drawn_forms(self):
        for form, _ in small_forms(151, 120):
            self.both(form)

    def test_drawn_forms_in_other_coordinates(self):
        chance = random.Random(152)
        for form, _ in small_forms(153, 30, 2):
            self.both(disguised(chance, with_copies(form)))

    def test_rings_parted_by_long_chains_alone(self):
        chance = random.Random(154)
        for dim in range(1, 17):
            self.both(ring_form(dim))
            if dim <= 8:
                self.both(disguised(chance, with_copies(ring_form(dim))))

    def test_number_fields(self):
        text = "kind Tree { Leaf() Node(Tree, number, Tree) Two(number, number) } "
        sums = "{ Leaf() = 0; Node(l, n, r) = (sum(l) + n + sum(r)); Two(a, b) = (a + b); }"
        twos = "{ Leaf() = 1; Node(l, n, r) = (two(l) * n * sum(r)); Two(a, b) = (a * b); }"
        program = f"{text} fun sum(Tree) {sums} fun two(Tree) {twos}"
        self.both(formed(read_program(program)))
        alone = "kind N { One(number, number, number) } fun f(N) { One(a, b, c) = ((a * c) + (2 * b)); }"
        self.both(formed(read_program(alone)))
        chance = random.Random(155)
        done = 0
        while done < 25:
            kinds = reference.random_kinds(chance, 2, 2, ("number",) * 3)
            form = reference.random_form(chance, kinds, 2, 0.6)
            if "number" in str(kinds):
                self.both(form)
                done += 1

    def test_nothing_to_learn(self):
        for form in (S[:3] + ((),), dims_form(0, 0), dims_form(2, 1), lone_form(2),
                     S[:3] + ((("size", "Tree", (NONE, NONE)),),)):
            teacher = Teacher(form)
            self.judged(teacher, form)
            self.assertEqual(teacher.asked(), (0, 1, 0))

    def test_kinds_without_trees(self):
        kinds = (("T", (("Leaf", ()), ("Into", ("U", "T")), ("Next", ("T",)))), ("U", (("Turn", ("U",)),)))
        step = ((0, (1,), ONE), (1, (0,), ONE))
        form = (kinds, (2, 2), ((((0, (), ONE),), ((0, (0, 1), ONE),), step), (step,)),
                (("u", "U", (ONE, ONE)), ("t", "T", (NONE, ONE))))
        self.both(form)
        self.assertEqual(learn(Teacher(form))[1], (2, 0))

    def test_asked_ahead_of_and_behind(self):
        teacher = Teacher(S)
        learn(teacher)
        first = teacher.asked()
        raised(BadName, teacher.number, "none", None)
        self.assertEqual(teacher.asked(), first)
        self.assertEqual(learn(teacher), least(S))
        numbers, parts, rows = teacher.asked()
        self.assertEqual((numbers, parts, rows), (2 * first[0], 2 * first[1], first[2]))
        teacher.number("size", (("Leaf", ()),))
        self.assertEqual(teacher.asked(), (numbers + 1, parts, rows))

    def test_trees_that_are_not_the_least_ones(self):
        chance = random.Random(156)
        for form, _ in small_forms(157, 60, 2):
            # Trees that double with each row would have numbers too great to write.
            lone = all(sum(field != "number" for field in fields) < 2
                       for _, makers in form[0] for _, fields in makers)
            self.judged(Rambling(form, chance, 40 if lone else 8), form)
        for dim in (2, 3, 5, 6):
            self.judged(Rambling(ring_form(dim), chance, 40), ring_form(dim))

    def test_integers_that_are_neither_0_nor_1(self):
        # What parts tells has integers that have to be exchanged for 0 or 1, whichever is wrong.
        text = "kind N { One(number) Two(N, number) } "
        for first, second in (("(1 + (-1 * n))", "(f(m) * n)"), ("n", "(f(m) + (2 * n))"),
                              ("(1/2 + n)", "(f(m) * (3 + n))"), ("5", "((1 + (-1 * n)) * f(m))")):
            form = formed(read_program(f"{text} fun f(N) {{ One(n) = {first}; Two(m, n) = {second}; }}"))
            for integer in (2, -1, 3, -2, 7, 10 ** 20):
                teacher = Told(form, [(("One", (integer,)),), (("One", (integer,)), ("Two", (0, integer))),
                                      (("One", (1 - integer,)), ("Two", (0, integer)), ("Two", (1, 2)))])
                self.judged(teacher, form)
        # The second read is guessed right over 0 alone, or over 1 alone.
        text = "kind N { One(number) } fun a(N) { One(n) = "
        for first, second in (("1", "(5 + n)"), ("n", "(3 + (2 * n))")):
            form = formed(read_program(f"{text} {first}; }} fun b(N) {{ One(n) = {second}; }}"))
            for integer in (7, 2, 3, -1, -2):
                self.judged(Told(form, [(("One", (integer,)),)]), form)
        chance = random.Random(159)
        done = 0
        while done < 60:
            kinds = reference.random_kinds(chance, 2, 1, ("number",) * 4)
            form = reference.random_form(chance, kinds, 3, 0.6)
            lone = all(sum(field != "number" for field in fields) < 2
                       for _, makers in form[0] for _, fields in makers)
            if "number" in str(kinds) and lone:
                self.judged(Rambling(form, chance, 4), form)
                done += 1

    def test_it_never_is_too_great_for_few_coordinates(self):
        # Six coordinates here and six in the least form, makers with three fields, nine of them.
        chance = random.Random(158)
        fields = [(), ("T",), ("T", "T", "T"), ("U", "T", "U"), ("T", "number", "U"), ("U", "U")]
        kinds = (("T", tuple((f"T{at}", one) for at, one in enumerate(fields))),
                 ("U", (("Z", ()), ("Y", ("U",)), ("X", ("T", "U")))))
        done = 0
        while done < 3:
            form = reference.random_form(chance, kinds, 3, 0.2)
            if form[1] == (3, 3) and least(form)[1] == (3, 3):
                self.both(form)
                done += 1
        # Four together, with makers of four fields.
        many = tuple((f"M{at}", ("T",) * 4) for at in range(5))
        kinds = (("T", (("Leaf", ()),) + many),)
        done = 0
        while done < 3:
            form = reference.random_form(chance, kinds, 2, 0.4)
            if form[1] == (2,) and least(form)[1] == (2,):
                self.both(form)
                done += 1

    def test_parts_that_are_too_great(self):
        raised(TooGreat, learn, Teacher(full_form(20001)))

        class Mute(Counting):
            """One who finds no tree with few enough rows."""

            def parts(self, form):
                raise TooGreat("the tree has too many rows")

        raised(TooGreat, learn, Mute(S))

    def test_trees_to_ask_for_with_many_rows(self):
        # Full trees, of which nothing is told but by what stands over them: the context around a
        # part has as many rows again as the tree has. The read tells 1 of each tree.
        kinds = PAIRS + (("Root", (("Top", ("Tree",)),)),)
        ones = (((0, (), ONE),), ((0, (0, 0), ONE),))
        form = (kinds, (1, 1), (ones, (((0, (0,), ONE),),)), (("one", "Root", (ONE,)),))
        for many, right in ((2, True), (30, True), (39, True), (60, False), (95, False)):
            teacher = Told(form, [full_tree(many) + (("Top", (many - 1,)),)])
            if right:
                self.judged(teacher, form)
                self.assertGreater(max(len(rows) for _, rows in teacher.numbers), many)
            else:
                raised(TooGreat, learn, teacher)
            self.assertLessEqual(max(len(rows) for _, rows in teacher.numbers), 96)

    def test_trees_with_very_many_makers(self):
        # What is guessed of a full tree may be too great to write; so smaller ones are looked at first.
        for form in (S, LEAVES, with_copies(S)):
            self.judged(Told(form, [full_tree(40)]), form)

    def test_trees_with_many_rows(self):
        for many in (34, 40, 48):
            for form in deep_pair(many):
                self.both(form)

    def test_forms_on_the_way_that_are_too_great(self):
        raised(TooGreat, learn, Teacher(products_form((8,), ("A",) * 4)))
        self.both(products_form((4, 3), ("A", "B", "B")))
        # Here only the last form on the way has 4,000 terms, and one more.
        many = products_form((8, 10, 5), ("A", "B", "B", "C"))
        self.judged(Teacher(many), many)
        raised(TooGreat, learn, Teacher(products_form((8, 10, 5), ("A", "B", "B", "C"), True)))


if __name__ == "__main__":
    unittest.main()
