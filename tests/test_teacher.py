"""Point [34]: teachers."""

import unittest

from sameontrees.equal import same
from sameontrees.errors import BadForm, BadName, BadRows, TooGreat, Unlike
from sameontrees.forms import number
from sameontrees.learning import Teacher
from tests.common import (LEAVES, MIXED, MIXED_FORM, NEVER, S, dims_form, full_form, raised, spoilt)
from tests.disguise import with_copies
from tests.test_contexts import MIXED_ROWS
from tests.wide import deep_pair, ring_form

ONE = (1, 1)
NONE = (0, 1)
NODE = (("Leaf", ()), ("Node", (0, 0)))


class Teachers(unittest.TestCase):

    def test_kinds_and_reads(self):
        teacher = Teacher(MIXED_FORM)
        self.assertEqual(teacher.kinds(), MIXED)
        self.assertEqual(teacher.reads(), (("one", "List"), ("two", "Item"), ("three", "List")))
        self.assertEqual(Teacher(S[:3] + ((),)).reads(), ())
        self.assertEqual(teacher.asked(), (0, 0, 0))

    def test_numbers(self):
        teacher = Teacher(MIXED_FORM)
        for name, many in (("one", 1), ("three", 1), ("two", 2), ("one", 3), ("two", 5)):
            self.assertEqual(teacher.number(name, MIXED_ROWS[:many]),
                             number(MIXED_FORM, name, MIXED_ROWS[:many]))
        self.assertEqual(teacher.asked(), (5, 0, 0))
        self.assertEqual(teacher.number(name="one", rows=MIXED_ROWS[:1]), ONE)

    def test_parts(self):
        teacher = Teacher(form=S)
        self.assertIsNone(teacher.parts(S))
        self.assertIsNone(teacher.parts(form=with_copies(S)))
        name, rows = teacher.parts(LEAVES)
        self.assertEqual(name, "size")
        self.assertNotEqual(number(S, name, rows), number(LEAVES, name, rows))
        self.assertEqual(teacher.asked(), (0, 3, len(rows)))

    def test_what_is_asked_is_counted_if_there_is_no_error(self):
        teacher = Teacher(S)
        raised(BadName, teacher.number, "sizes", NODE)
        raised(BadRows, teacher.number, "size", None)
        raised(BadForm, teacher.parts, None)
        raised(Unlike, teacher.parts, MIXED_FORM)
        self.assertEqual(teacher.asked(), (0, 0, 0))
        teacher.number("size", NODE)
        teacher.parts(S)
        self.assertEqual(teacher.asked(), (1, 1, 0))
        raised(BadName, teacher.number, None, NODE)
        raised(Unlike, teacher.parts, dims_form(2))
        self.assertEqual(teacher.asked(), (1, 1, 0))
        teacher.number("size", NODE)
        teacher.parts(LEAVES)
        self.assertEqual(teacher.asked()[:2], (2, 2))
        self.assertEqual(teacher.asked(), teacher.asked())

    def test_the_greatest_number_of_rows(self):
        teacher = Teacher(ring_form(9))
        least, most = ring_form(9), []
        for dim in (4, 2, 7, 3):
            _, rows = teacher.parts(ring_form(dim))
            most.append(len(rows))
            self.assertEqual(teacher.asked()[2], max(most))
        self.assertEqual(most, [4, 2, 7, 3])
        self.assertIsNone(teacher.parts(least))
        self.assertEqual(teacher.asked(), (0, 5, 7))

    def test_two_teachers_know_their_own_forms(self):
        one, other = Teacher(S), Teacher(LEAVES)
        one.number("size", NODE)
        self.assertEqual((one.asked(), other.asked()), ((1, 0, 0), (0, 0, 0)))
        self.assertEqual((one.number("size", NODE), other.number("size", NODE)), ((3, 1), (2, 1)))

    def test_wrong_forms(self):
        for thing in NEVER:
            raised(BadForm, Teacher, thing)
            raised(BadForm, Teacher(S).parts, thing)
        raised(BadForm, Teacher, dims_form(17))
        raised(BadForm, Teacher(S).parts, dims_form(17))
        for version in spoilt(S):
            raised(BadForm, Teacher(S).parts, version)

    def test_wrong_names_and_rows(self):
        teacher = Teacher(MIXED_FORM)
        for thing in NEVER:
            raised(BadName, teacher.number, thing, MIXED_ROWS)
            raised(BadRows, teacher.number, "two", thing)
        raised(BadName, teacher.number, "four", None)
        raised(BadRows, teacher.number, "one", MIXED_ROWS)
        raised(BadRows, teacher.number, "one", NODE)
        self.assertEqual(teacher.asked(), (0, 0, 0))

    def test_forms_that_are_not_comparable(self):
        teacher = Teacher(S)
        for other in (S[:3] + ((),), S[:3] + ((("sizes", "Tree", (ONE, ONE)),),), MIXED_FORM,
                      S[:3] + (S[3] + (("more", "Tree", (ONE, ONE)),),)):
            raised(Unlike, teacher.parts, other)

    def test_too_great(self):
        great = Teacher(full_form(20001))
        raised(TooGreat, great.parts, full_form(20001))
        reads = (("last", "T", (ONE,) + (NONE,) * 9),)
        raised(TooGreat, great.parts, full_form(20001)[:3] + (reads,))
        self.assertEqual(great.asked(), (0, 0, 0))

    def test_trees_with_more_than_forty_rows(self):
        for many in (39, 40):
            one, other = deep_pair(many)
            teacher = Teacher(one)
            self.assertEqual(len(same(one, other)[2]), many)
            name, rows = teacher.parts(other)
            self.assertLessEqual(len(rows), 40)
            self.assertNotEqual(number(one, name, rows), number(other, name, rows))
            self.assertEqual(teacher.asked(), (0, 1, len(rows)))
        for many in (41, 48):
            one, other = deep_pair(many)
            teacher = Teacher(one)
            self.assertEqual(len(same(one, other)[2]), many)
            raised(TooGreat, teacher.parts, other)
            self.assertEqual(teacher.asked(), (0, 0, 0))
            self.assertIsNone(teacher.parts(one))


if __name__ == "__main__":
    unittest.main()
