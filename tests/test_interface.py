"""The interface: names, parameters, the files in which things are defined, and point [2]."""

import copy
import inspect
import unittest

from sameontrees import (checks, equal, forms, learning, least, logs, matrices, programs, reached,
                         rewriters, seen, sums, trees, whole)
from sameontrees.errors import (BadContext, BadForm, BadKind, BadKinds, BadLimit, BadLog, BadMatrix,
                                BadName, BadProgram, BadRewriter, BadRows, BadText, BadTree,
                                BadVector)
from tests.common import BINARY, LEAVES, MIXED, NEVER, S, is_plain, raised, spoilt
from tests.test_least import LEAST_S
from tests.test_rewriters import MIRROR
from tests.test_steps import COPIES, TWICE
from tests.test_tables import EXAMPLE

ROWS = (("Leaf", ()), ("Node", (0, 5, 0)))
WORDS = ("Node", "Leaf", 5, "Leaf")
PROGRAM = (BINARY, (("sum", "Tree", (
    ("Leaf", (), ("num", (0, 1))),
    ("Node", ("l", "n", "r"), ("sum", (("call", "sum", "l"), ("field", "n")))),
)),))
TEXT = programs.write_program(PROGRAM)
PAIR_ROWS = (("Leaf", ()), ("Node", (0, 0)))
MATRIX = (((1, 1), (1, 2)), ((0, 1), (3, 1)))
CONTEXT = (0, (("Node", 0, (1,)), ("Node", 1, (0,))))

# Each function with its parameters' names and arguments that are right.
CALLS = (
    (trees, "is_kinds", {"thing": BINARY}),
    (trees, "is_tree", {"kinds": BINARY, "kind": "Tree", "thing": WORDS}),
    (trees, "is_rows", {"kinds": BINARY, "thing": ROWS}),
    (trees, "ahead", {"kinds": BINARY, "kind": "Tree", "one": ("Leaf",), "other": WORDS}),
    (trees, "sizes", {"kinds": BINARY, "rows": ROWS}),
    (trees, "rows_of", {"kinds": BINARY, "kind": "Tree", "words": WORDS}),
    (trees, "words_of", {"kinds": BINARY, "rows": ROWS}),
    (programs, "is_program", {"thing": PROGRAM}),
    (programs, "write_program", {"program": PROGRAM}),
    (programs, "read_program", {"text": TEXT}),
    (checks, "check", {"program": PROGRAM}),
    (checks, "checked", {"program": PROGRAM}),
    (checks, "tell", {"program": PROGRAM, "name": "sum", "words": WORDS}),
    (forms, "is_form", {"thing": S}),
    (forms, "vectors", {"form": S, "rows": PAIR_ROWS}),
    (forms, "number", {"form": S, "name": "size", "rows": PAIR_ROWS}),
    (forms, "formed", {"program": PROGRAM}),
    (forms, "program_of", {"form": S}),
    (matrices, "made_of", {"rows": MATRIX, "target": ((0, 1), (2, 1))}),
    (matrices, "rank", {"rows": MATRIX}),
    (matrices, "inverse", {"rows": MATRIX}),
    (matrices, "times_matrix", {"one": MATRIX, "other": MATRIX}),
    (reached, "reached", {"form": S}),
    (reached, "closing", {"form": S}),
    (reached, "is_closing", {"form": S, "thing": reached.closing(S)}),
    (seen, "covector", {"form": S, "rows": PAIR_ROWS, "context": CONTEXT}),
    (seen, "seen", {"form": S}),
    (seen, "is_seen", {"form": S, "thing": seen.seen(S)}),
    (least, "least", {"form": S}),
    (least, "tables", {"form": S}),
    (least, "is_table", {"form": S, "rows": PAIR_ROWS, "kind": "Tree", "thing": EXAMPLE}),
    (least, "between", {"one": S, "other": LEAST_S}),
    (least, "is_between", {"one": S, "other": LEAST_S, "thing": least.between(S, LEAST_S)}),
    (logs, "stepped", {"form": COPIES, "step": TWICE}),
    (logs, "replayed", {"form": COPIES, "log": (TWICE,)}),
    (equal, "joint", {"one": S, "other": COPIES}),
    (equal, "same", {"one": S, "other": COPIES}),
    (equal, "is_same", {"one": S, "other": COPIES, "thing": equal.same(S, COPIES)[1]}),
    (equal, "is_part", {"one": S, "other": LEAVES, "thing": ("size", PAIR_ROWS, (3, 1), (2, 1))}),
    (equal, "same_log", {"one": S, "other": COPIES}),
    (rewriters, "is_rewriter", {"thing": MIRROR}),
    (rewriters, "rewritten", {"rewriter": MIRROR, "name": "turn", "words": WORDS}),
    (rewriters, "composed", {"rewriter": MIRROR, "form": forms.formed(PROGRAM)}),
    (sums, "sums", {"form": S, "name": "size", "most": 5}),
    (sums, "counts", {"form": S, "kind": "Tree", "most": 7}),
    (sums, "product_form", {"one": S, "other": LEAVES}),
    (whole, "settled", {"text": TEXT, "other": TEXT}),
    (whole, "lessened", {"text": TEXT}),
)

ERRORS = {"kinds": BadKinds, "kind": BadKind, "one": BadTree, "other": BadTree, "words": BadTree,
          "rows": BadRows, "program": BadProgram, "name": BadName, "form": BadForm,
          "context": BadContext, "most": BadLimit, "rewriter": BadRewriter, "text": BadText}
ERRORS_OF_MATRICES = {"rows": BadMatrix, "one": BadMatrix, "other": BadMatrix, "target": BadVector}
ERRORS_OF_FORMS = {**ERRORS, "one": BadForm, "other": BadForm}
ERRORS_OF_TEXTS = {"text": BadText, "other": BadText}


def errors_of(module):
    """The errors that are named for parameters in the module."""
    if module is matrices:
        return ERRORS_OF_MATRICES
    if module is whole:
        return ERRORS_OF_TEXTS
    return ERRORS if module is trees else ERRORS_OF_FORMS


def never_as(module, parameter):
    """Objects that are never right as the parameter.

    The name of a kind may be a str, and () the rows of no trees, or a matrix.
    """
    things = [thing for thing in NEVER if parameter != "kind" or not isinstance(thing, str)]
    if parameter == "most":
        return [thing for thing in things if repr(thing) not in ("0", "1")]
    if module is matrices:
        return [thing for thing in things if repr(thing) not in ("()", "((),)")]
    if module in (seen, least) and parameter == "rows":
        return [thing for thing in things if repr(thing) != "()"]
    return things


class Interface(unittest.TestCase):

    def test_functions_stand_in_their_files_with_their_parameters(self):
        for module, name, arguments in CALLS:
            function = getattr(module, name)
            self.assertTrue(inspect.isfunction(function))
            self.assertEqual(function.__module__, module.__name__)
            self.assertEqual(list(inspect.signature(function).parameters), list(arguments))

    def test_calls_by_position_and_by_name_are_equal(self):
        for module, name, arguments in CALLS:
            function = getattr(module, name)
            told = function(*arguments.values())
            self.assertEqual(function(**arguments), told)
            backwards = dict(reversed(list(arguments.items())))
            self.assertEqual(function(**backwards), told)

    def test_results_are_plain_and_equal_calls_tell_the_same(self):
        for module, name, arguments in CALLS:
            function = getattr(module, name)
            told = function(**arguments)
            self.assertTrue(is_plain(told), name)
            self.assertEqual(function(**copy.deepcopy(arguments)), told)

    def test_the_results_of_right_arguments(self):
        told = {name: getattr(module, name)(**arguments) for module, name, arguments in CALLS}
        for name in ("is_kinds", "is_tree", "is_rows", "ahead", "is_program", "is_form", "is_closing",
                     "is_seen", "is_table", "is_between", "is_same", "is_part", "is_rewriter"):
            self.assertIs(told[name], True)
        self.assertEqual(told["sizes"], (1, 3))
        self.assertEqual(told["rows_of"], ROWS)
        self.assertEqual(told["words_of"], WORDS)
        self.assertEqual(told["read_program"], PROGRAM)
        self.assertIsNone(told["check"])
        self.assertIsNone(told["checked"])
        self.assertEqual(told["tell"], (5, 1))
        self.assertEqual(told["vectors"], (((1, 1), (1, 1)), ((1, 1), (3, 1))))
        self.assertEqual(told["number"], (3, 1))
        self.assertEqual(told["made_of"], ("made", ((0, 1), (2, 3))))
        self.assertEqual(told["rank"], 2)
        self.assertEqual(told["inverse"], (((1, 1), (-1, 6)), ((0, 1), (1, 3))))
        self.assertEqual(told["times_matrix"], (((1, 1), (2, 1)), ((0, 1), (9, 1))))
        self.assertEqual(told["reached"], (PAIR_ROWS, ((0, 1),)))
        self.assertEqual(told["covector"], ((6, 1), (1, 1)))
        self.assertEqual(told["least"], LEAST_S)
        self.assertEqual(told["stepped"], S)
        self.assertEqual(told["replayed"], S)
        self.assertEqual(logs.replayed(S, told["same_log"]), COPIES)
        self.assertEqual(told["rewritten"], WORDS)
        self.assertEqual(told["sums"][5], (10, 1))
        self.assertEqual(told["counts"], (0, 1, 0, 1, 0, 2, 0, 5))
        self.assertEqual(told["settled"], ("same", ()))


class Classes(unittest.TestCase):

    def test_the_teacher_has_its_own_methods(self):
        self.assertEqual(learning.Teacher.__module__, "sameontrees.learning")
        parameters = {"__init__": ["form"], "kinds": [], "reads": [], "number": ["name", "rows"],
                      "parts": ["form"], "asked": []}
        for name, own in parameters.items():
            method = vars(learning.Teacher)[name]
            self.assertEqual(list(inspect.signature(method).parameters)[1:], own)
        self.assertEqual(list(inspect.signature(learning.learn).parameters), ["teacher"])
        self.assertEqual(learning.learn.__module__, "sameontrees.learning")

    def test_what_a_teacher_tells_is_plain(self):
        teacher = learning.Teacher(S)
        for told in (teacher.kinds(), teacher.reads(), teacher.number("size", PAIR_ROWS),
                     teacher.parts(LEAVES), teacher.parts(S), teacher.asked(),
                     learning.learn(teacher), teacher.asked()):
            self.assertTrue(is_plain(told))
        self.assertEqual(learning.learn(teacher=learning.Teacher(form=COPIES)), LEAST_S)


class WrongArguments(unittest.TestCase):

    def test_each_wrong_argument_raises_its_error(self):
        for module, name, arguments in CALLS:
            for parameter, value in arguments.items():
                if parameter in errors_of(module):
                    for version in (*never_as(module, parameter), *spoilt(value)):
                        wrong = {**arguments, parameter: version}
                        raised(errors_of(module)[parameter], getattr(module, name), **wrong)

    def test_the_first_wrong_argument_raises(self):
        for module, name, arguments in CALLS:
            parameters = list(arguments)
            for place, first in enumerate(parameters):
                if first in errors_of(module):
                    wrong = {parameter: None for parameter in parameters[place:]}
                    raised(errors_of(module)[first], getattr(module, name), **{**arguments, **wrong})

    def test_kinds_are_looked_at_even_where_any_object_is_judged(self):
        for kinds in (None, [], (), list(BINARY), (("Tree", ()),), BINARY + BINARY):
            raised(BadKinds, trees.is_tree, kinds, "Tree", ("Leaf",))
            raised(BadKinds, trees.is_tree, kinds, "None", None)
            raised(BadKinds, trees.is_rows, kinds, ROWS)
            raised(BadKinds, trees.is_rows, kinds, None)

    def test_a_tree_of_another_kind_is_refused(self):
        one = ("One", 1)
        raised(BadTree, trees.ahead, MIXED, "Item", ("End",), one)
        raised(BadTree, trees.ahead, MIXED, "Item", one, ("End",))
        raised(BadTree, trees.rows_of, MIXED, "List", one)
        raised(BadKind, trees.rows_of, MIXED, "One", one)

    def test_arguments_stay_as_they_are(self):
        for module, name, arguments in CALLS:
            for parameter, value in arguments.items():
                listed = [value, {"a": [value]}]
                kept = copy.deepcopy(listed)
                try:
                    getattr(module, name)(**{**arguments, parameter: listed})
                except ValueError:
                    pass
                self.assertEqual(listed, kept)

    def test_logs_of_whatever_else(self):
        for thing in NEVER:
            if not isinstance(thing, tuple):
                raised(BadLog, logs.replayed, S, thing)

    def test_judges_return_true_or_false(self):
        for thing in NEVER:
            self.assertIs(seen.is_seen(S, thing), False)
            self.assertIs(least.is_table(S, PAIR_ROWS, "Tree", thing), False)
            self.assertIs(least.is_between(S, S, thing), False)
            self.assertIs(equal.is_same(S, S, thing), False)
            self.assertIs(equal.is_part(S, S, thing), False)
            self.assertIs(rewriters.is_rewriter(thing), False)
            self.assertIs(trees.is_kinds(thing), False)
            self.assertIs(trees.is_tree(BINARY, "Tree", thing), False)
            self.assertIs(trees.is_rows(BINARY, thing), False)
            self.assertIs(programs.is_program(thing), False)
            self.assertIs(forms.is_form(thing), False)
            self.assertIs(reached.is_closing(S, thing), False)


if __name__ == "__main__":
    unittest.main()
