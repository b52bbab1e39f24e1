"""Points [36] and [37]: rewriters, rewritten trees, and forms told behind rewriters."""

import random
import unittest

from sameontrees.equal import same
from sameontrees.errors import BadForm, BadName, BadRewriter, BadTree, TooGreat, Unlike
from sameontrees.forms import formed, is_form, number
from sameontrees.least import least
from sameontrees.programs import read_program
from sameontrees.rewriters import composed, is_rewriter, rewritten
from sameontrees.trees import is_tree, rows_of
from tests import reference
from tests.common import (BINARY, CHAIN, MIXED, MIXED_FORM, NEVER, S, chain, dims_form, lone_form,
                          raised, spoilt, with_part)

ONE = (1, 1)
NONE = (0, 1)

# Trees become mirrored ones, all integers one to the left of where they were.
MIRROR = (BINARY, BINARY, (("turn", "Tree", "Tree", (
    (("Leaf", ()),),
    (("Node", (("state", "turn", 2), ("number", 1), ("state", "turn", 0))),))),))

# Trees become lists of items: two states, of which one leads to each kind.
LISTS = (BINARY, MIXED, (
    ("list", "Tree", "List", ((("End", ()),),
                              (("One", (7,)), ("Item", (("number", 1), 0, ("state", "list", 2)))))),
    ("item", "Tree", "Item", ((("One", (-3,)),),
                              (("Pair", (("state", "item", 0), ("state", "item", 2))),))),
    ("first", "Tree", "Item", ((("End", ()), ("Box", (0,))), ("state", "item", 0)))))

# Each maker becomes forty of them.
FORTY = (CHAIN, CHAIN, (("many", "Nat", "Nat", (
    (("Zero", ()),),
    (("Next", (("state", "many", 0),)),) + tuple(("Next", (at,)) for at in range(39)),
    (("Mark", (("number", 0), ("state", "many", 1))),))),))


def with_rule(rewriter, state, maker, rule):
    """The rewriter with another rule."""
    return with_part(rewriter, (2, state, 3, maker), rule)


def made_by(rewriter, name, tree):
    """The nested tree that the state makes of a nested tree, by the words of the document."""
    kinds, _, states = rewriter
    [(kind, rules)] = [(kind, rules) for state, kind, _, rules in states if state == name]
    maker, entries = tree
    [rule] = [rule for (word, _), rule in zip(dict(kinds)[kind], rules) if word == maker]
    if rule[0] == "state":
        return made_by(rewriter, rule[1], entries[rule[2]])
    found = []
    for (word, own) in rule:
        fields = reference.makers_in(rewriter[1])[word][2]
        parts = []
        for field, entry in zip(fields, own):
            if isinstance(entry, tuple):
                parts.append(made_by(rewriter, entry[1], entries[entry[2]]) if entry[0] == "state"
                             else entries[entry[1]])
            else:
                parts.append(entry if field == "number" else found[entry])
        found.append((word, tuple(parts)))
    return found[-1]


def drawn_rewriter(chance, kinds, others, most_states=4):
    """A rewriter with drawn rules, of which each state has a tree to make where it can."""
    states = [(f"s{at}", chance.choice(kinds)[0], chance.choice(others)[0])
              for at in range(chance.randint(1, most_states))]
    told = []
    for name, kind, other in states:
        rules = []
        for _, fields in dict(kinds)[kind]:
            free = list(enumerate(fields))
            chance.shuffle(free)
            rows = []
            rule = drawn_part(chance, others, states, other, free, rows, chance.randint(0, 4))
            if rule is None:
                return None
            rules.append(tuple(rows) if isinstance(rule, int) else rule)
        told.append((name, kind, other, tuple(rules)))
    return (kinds, others, tuple(told))


def drawn_part(chance, others, states, other, free, rows, depth):
    """An entry of a rule that stands for a tree of the kind other, None if none was found."""
    uses = [(name, place) for name, kind, led in states if led == other
            for place, field in free if field == kind]
    if uses and chance.random() < 0.5:
        name, place = chance.choice(uses)
        free.remove(next(pair for pair in free if pair[0] == place))
        return ("state", name, place)
    makers = [maker for maker in dict(others)[other]
              if depth > 0 or not [field for field in maker[1] if field != "number"]]
    if not makers:
        return None
    word, fields = chance.choice(makers)
    entries = []
    for field in fields:
        if field == "number":
            numbers = [place for place, one in free if one == "number"]
            if numbers and chance.random() < 0.6:
                free.remove((numbers[0], "number"))
                entries.append(("number", numbers[0]))
            else:
                entries.append(chance.randint(-2, 3))
        else:
            entries.append(drawn_part(chance, others, states, field, free, rows, depth - 1))
    if None in entries:
        return None
    rows.append((word, tuple(entries)))
    return len(rows) - 1


def drawn_rewriters(seed, many):
    """Drawn rewriters."""
    chance = random.Random(seed)
    while many > 0:
        kinds = reference.random_kinds(chance, 2, 2)
        others = reference.random_kinds(chance, 2, 2)
        rewriter = drawn_rewriter(chance, kinds, others)
        if rewriter is not None:
            many -= 1
            yield chance, rewriter


class IsRewriter(unittest.TestCase):

    def refused(self, thing):
        self.assertIs(is_rewriter(thing), False)
        raised(BadRewriter, rewritten, thing, None, None)
        raised(BadRewriter, composed, thing, None)

    def test_right_ones(self):
        for rewriter in (MIRROR, LISTS, FORTY):
            self.assertIs(is_rewriter(rewriter), True)
        for _, rewriter in drawn_rewriters(161, 100):
            self.assertIs(is_rewriter(rewriter), True)

    def test_any_object(self):
        for thing in NEVER:
            self.refused(thing)
            for at in range(3):
                self.refused(with_part(LISTS, (at,), thing))
            for at in range(4):
                # "Tree" is the name of a kind.
                self.refused(with_part(LISTS, (2, 0, at), thing) if thing is not NEVER[8] else None)
            self.refused(with_part(LISTS, (2, 1), thing))
            self.refused(with_rule(LISTS, 0, 0, thing))
            self.refused(with_rule(LISTS, 0, 1, (("One", (7,)), thing)))
            self.refused(with_rule(LISTS, 0, 0, (("End", thing),)) if thing is not NEVER[11] else None)

    def test_another_thing_at_each_depth(self):
        for version in spoilt(LISTS):
            self.refused(version)
        self.refused(LISTS + ((),))
        self.refused(LISTS[:2])

    def test_one_to_eight_states(self):
        (state,) = MIRROR[2]
        states = tuple((f"turn{at}", "Tree", "Tree", tuple(
            tuple((maker, tuple(("state", f"turn{at}", entry[2]) if isinstance(entry, tuple)
                                and entry[0] == "state" else entry for entry in entries))
                  for maker, entries in rule) for rule in state[3])) for at in range(9))
        self.assertIs(is_rewriter((BINARY, BINARY, states[:8])), True)
        self.refused((BINARY, BINARY, states))
        self.refused((BINARY, BINARY, ()))
        self.refused((BINARY, BINARY, (states[0], states[0])))
        renamed = with_part(states, (1, 0), "turn0")
        self.refused((BINARY, BINARY, renamed[:2]))

    def test_names_and_kinds(self):
        for name in ("Turn", "turn ", "", "fun", "kind", "number", "a" * 11, "1a", "turned"):
            self.refused(with_part(MIRROR, (2, 0, 0), name))
        for at in (1, 2):
            for name in ("tree", "Leaf", "number", "", "Trees"):
                self.refused(with_part(MIRROR, (2, 0, at), name))
        self.refused(with_part(LISTS, (2, 0, 2), "Item"))
        self.refused(with_part(LISTS, (2, 0, 1), "List"))
        # The states' kinds are of the first kinds, what they lead to is of the others.
        self.refused((MIXED, BINARY, LISTS[2]))
        self.refused((LISTS[0], BINARY, LISTS[2]))

    def test_states_of_another_length(self):
        self.refused(with_part(MIRROR, (2, 0), MIRROR[2][0] + ((),)))
        self.refused(with_part(MIRROR, (2, 0), MIRROR[2][0][:3]))
        self.refused(MIRROR[:2] + (MIRROR[2][0],))

    def test_a_rule_for_each_maker(self):
        rules = MIRROR[2][0][3]
        for wrong in ((), rules[:1], rules + rules[:1], rules[::-1]):
            self.refused(with_part(MIRROR, (2, 0, 3), wrong))

    def test_1_40_and_41_rows(self):
        def rows(many):
            return (("Zero", ()),) + tuple(("Next", (at,)) for at in range(many - 1))

        for many in (1, 2, 39, 40, 41, 96):
            told = with_rule(FORTY, 0, 0, rows(many))
            self.assertIs(is_rewriter(told), many <= 40)
        self.refused(with_rule(FORTY, 0, 0, ()))

    def test_each_row_but_the_last_is_led_to_once(self):
        leaf, node = ("Leaf", ()), ("Node", (0, 1, 0))
        for rule in ((leaf, node), (leaf, leaf), (leaf, leaf, ("Node", (0, 5, 0))), (leaf, leaf, node),
                     (leaf, ("Node", (0, 5, ("state", "turn", 2))), leaf),
                     (leaf, leaf, leaf, ("Node", (0, 5, 1))), (leaf, leaf, ("Node", (1, 5, 1)))):
            self.refused(with_rule(MIRROR, 0, 1, rule))
        for rule in ((leaf,), (leaf, leaf, ("Node", (0, 1, 1))), (leaf, leaf, ("Node", (1, 0, 0))),
                     (leaf, leaf, leaf, ("Node", (2, 5, 0)), ("Node", (3, 5, 1))),
                     (leaf, ("Node", (("state", "turn", 2), 0, 0)))):
            self.assertIs(is_rewriter(with_rule(MIRROR, 0, 1, rule)), True)

    def test_entries_that_lead_nowhere(self):
        leaf = ("Leaf", ())
        for entries in ((0, 1, 2), (0, 1, -1), (0, 1, 10 ** 20), (0, 1, True), (False, 1, 1), (0, 1),
                        (0, 1, 1, 1), (0, NONE, 1), (0, 1, (1,)), (0, 1, "1"), (0, 1, ("row", 1)),
                        [0, 1, 1]):
            self.refused(with_rule(MIRROR, 0, 1, (leaf, leaf, ("Node", entries))))
        # A row of another kind.
        self.refused(with_rule(LISTS, 0, 1, (("End", ()), ("Item", (1, 0, ("state", "list", 2))))))
        self.refused(with_rule(LISTS, 0, 1, (("End", ()), ("Two", (0,)))))

    def test_the_last_row_is_of_the_kind(self):
        self.refused(with_rule(LISTS, 0, 0, (("One", (5,)),)))
        self.refused(with_rule(LISTS, 1, 0, (("End", ()),)))
        self.assertIs(is_rewriter(with_rule(LISTS, 1, 0, (("End", ()), ("Box", (0,))))), True)

    def test_states_in_rules(self):
        right = ("state", "turn", 0)
        for wrong in (("state", "turn", 1), ("state", "turn", 3), ("state", "turn", -1),
                      ("state", "turns", 0), ("state", "Tree", 0), ("states", "turn", 0),
                      ("state", "turn"), ("state", "turn", 0, 0), ("state", 0, "turn"),
                      ("state", "turn", True), ["state", "turn", 0], ("turn", 0)):
            self.refused(with_rule(MIRROR, 0, 1, (("Node", (right, 1, wrong)),)))
            self.refused(with_rule(MIRROR, 0, 1, wrong))
        # The field is of the state's kind, and the state leads to the entry's kind.
        self.refused(with_rule(LISTS, 0, 1, ("state", "item", 0)))
        self.refused(with_rule(LISTS, 0, 1, (("One", (7,)), ("Item", (1, 0, ("state", "item", 2))))))
        self.refused(with_rule(LISTS, 0, 0, ("state", "list", 0)))

    def test_a_rule_that_is_a_state_alone(self):
        for at in (0, 2):
            self.assertIs(is_rewriter(with_rule(MIRROR, 0, 1, ("state", "turn", at))), True)
        self.refused(with_rule(MIRROR, 0, 1, (("state", "turn", 0),)))
        self.refused(with_rule(MIRROR, 0, 0, ("state", "turn", 0)))

    def test_number_fields_in_rules(self):
        left, right = ("state", "turn", 0), ("state", "turn", 2)
        for wrong in (("number", 0), ("number", 2), ("number", 3), ("number", -1), ("number",),
                      ("number", 1, 1), ("numbers", 1), ["number", 1], ("number", True), "number", ONE,
                      ("state", "turn", 1)):
            self.refused(with_rule(MIRROR, 0, 1, (("Node", (left, wrong, right)),)))
            self.refused(with_rule(MIRROR, 0, 1, wrong))
        for entry in (0, -5, 10 ** 30, ("number", 1)):
            self.assertIs(is_rewriter(with_rule(MIRROR, 0, 1, (("Node", (left, entry, right)),))), True)
        # At a field that is none for numbers.
        self.refused(with_rule(MIRROR, 0, 1, (("Node", (left, 1, ("number", 1))),)))

    def test_each_field_is_named_at_most_once(self):
        left, right = ("state", "turn", 0), ("state", "turn", 2)
        leaf = ("Leaf", ())
        self.refused(with_rule(MIRROR, 0, 1, (("Node", (left, 1, left)),)))
        self.refused(with_rule(MIRROR, 0, 1, (leaf, ("Node", (0, ("number", 1), left)),
                                              ("Node", (1, ("number", 1), right)))))
        self.refused(with_rule(MIRROR, 0, 1, (leaf, ("Node", (left, 1, 0)), ("Node", (1, 2, left)))))
        # By whatever state.
        self.refused(with_rule(LISTS, 1, 1, (("Pair", (("state", "item", 0), ("state", "first", 0))),)))
        both = (("Pair", (("state", "item", 2), ("state", "first", 0))),)
        self.assertIs(is_rewriter(with_rule(LISTS, 1, 1, both)), True)
        self.assertIs(is_rewriter(with_rule(MIRROR, 0, 1, (leaf,))), True)


class Rewritten(unittest.TestCase):

    def test_by_hand(self):
        words = ("Node", "Node", "Leaf", 2, "Leaf", 5, "Leaf")
        self.assertEqual(rewritten(MIRROR, "turn", words), ("Node", "Leaf", 5, "Node", "Leaf", 2, "Leaf"))
        self.assertEqual(rewritten(LISTS, "list", words), ("Item", 5, "One", 7, "End"))
        self.assertEqual(rewritten(LISTS, "item", words), ("Pair", "Pair", "One", -3, "One", -3, "One", -3))
        self.assertEqual(rewritten(LISTS, "first", words), ("Pair", "One", -3, "One", -3))
        self.assertEqual(rewritten(LISTS, "first", ("Leaf",)), ("Box", "End"))
        self.assertEqual(rewritten(rewriter=LISTS, name="list", words=("Leaf",)), ("End",))

    def test_drawn_ones(self):
        for chance, rewriter in drawn_rewriters(162, 80):
            trees = reference.all_trees(rewriter[0], 3, (0, 1, -2))
            for name, kind, other, _ in rewriter[2]:
                for tree in trees[kind][:20]:
                    told = rewritten(rewriter, name, reference.words_of_nested(tree))
                    made = made_by(rewriter, name, tree)
                    self.assertEqual(told, reference.words_of_nested(made))
                    self.assertTrue(len(told) > 400 or is_tree(rewriter[1], other, told))

    def test_400_words(self):
        stay = with_rule(FORTY, 0, 1, (("Next", (("state", "many", 0),)),))
        self.assertEqual(rewritten(stay, "many", chain(400)), chain(400))
        raised(BadTree, rewritten, stay, "many", chain(401))
        comb = ("Node", "Leaf", 1) * 133 + ("Leaf",)
        self.assertEqual(len(comb), 400)
        self.assertEqual(rewritten(MIRROR, "turn", comb), ("Node",) * 133 + ("Leaf",) + (1, "Leaf") * 133)

    def test_4000_words_and_4001(self):
        # Ninety-nine times forty words and one more, and what a mark or one more brings.
        self.assertEqual(len(rewritten(FORTY, "many", chain(100))), 3961)
        marks = ("Mark", 5)
        for more, many in ((0, 3961), (19, 3999), (20, 4001)):
            told = rewritten(FORTY, "many", marks * more + chain(100))
            self.assertEqual(told, None if many > 4000
                             else marks * more + ("Next",) * 3960 + ("Zero",))
        pair = with_rule(FORTY, 0, 0, (("Zero", ()), ("Next", (0,))))
        self.assertEqual(len(rewritten(pair, "many", marks * 19 + chain(100))), 4000)
        self.assertIsNone(rewritten(FORTY, "many", chain(101)))
        self.assertIsNone(rewritten(FORTY, "many", chain(400)))
        # What a rule leaves out has not to be made.
        out = (CHAIN, CHAIN, FORTY[2] + (("top", "Nat", "Nat", (
            (("Zero", ()),), (("Zero", ()),), (("Mark", (("number", 0), ("state", "many", 1))),))),))
        self.assertEqual(rewritten(out, "top", chain(400)), ("Zero",))
        self.assertIsNone(rewritten(out, "top", ("Mark", 2) + chain(398)))

    def test_equal_parts_by_unlike_states(self):
        words = ("Node", "Node", "Leaf", 1, "Leaf", 3, "Node", "Leaf", 1, "Leaf")
        both = with_rule(LISTS, 1, 1, (("Pair", (("state", "item", 2), ("state", "first", 0))),))
        self.assertEqual(rewritten(both, "item", words),
                         ("Pair", "Pair", "One", -3, "Box", "End", "One", -3))

    def test_errors_in_their_order(self):
        for thing in NEVER:
            raised(BadRewriter, rewritten, thing, thing, thing)
            raised(BadName, rewritten, MIRROR, thing, thing)
            raised(BadTree, rewritten, MIRROR, "turn", thing)
        raised(BadName, rewritten, MIRROR, "turns", ("Leaf",))
        raised(BadName, rewritten, MIRROR, "Tree", ("Leaf",))
        raised(BadTree, rewritten, MIRROR, "turn", ("Node", "Leaf", "Leaf"))
        raised(BadTree, rewritten, LISTS, "list", ("End",))
        raised(BadTree, rewritten, MIRROR, "turn", ["Leaf"])


class Composed(unittest.TestCase):

    def judged(self, rewriter, form, most=3):
        """The composed form, which tells of a tree what the form tells of the rewritten one."""
        told = composed(rewriter, form)
        kinds, others, states = rewriter
        self.assertIs(is_form(told), True)
        self.assertEqual(told[0], kinds)
        dim_of = dict(zip([name for name, _ in others], form[1]))
        self.assertEqual(told[1], tuple(1 + sum(dim_of[other] for _, own, other, _ in states if own == kind)
                                        for kind, _ in kinds))
        heads = [(f"{read}x{state}", kind, read, state) for read, read_kind, _ in form[3]
                 for state, kind, other, _ in states if other == read_kind]
        self.assertEqual([read[:2] for read in told[3]], [head[:2] for head in heads])
        trees = reference.all_trees(kinds, most, (0, 1, -2))
        for name, kind, read, state in heads:
            for tree in trees[kind][:12]:
                made = made_by(rewriter, state, tree)
                self.assertEqual(reference.number_of_nested(told, name, tree),
                                 reference.number_of_nested(form, read, made))
        for (kind, makers), own in zip(kinds, told[2]):
            for (_, fields), terms in zip(makers, own):
                zeros = (0,) * len(fields)
                self.assertEqual([term for term in terms if term[0] == 0], [(0, zeros, ONE)], kind)
        return told

    def test_by_hand(self):
        sums = formed(read_program("kind Tree { Leaf() Node(Tree, number, Tree) } fun sum(Tree) {"
                                   "Leaf() = 0; Node(l, n, r) = (sum(l) + n + (2 * sum(r))); }"))
        told = self.judged(MIRROR, sums)
        node = ((0, (0, 0, 0), ONE), (1, (1, 0, 1), ONE), (2, (1, 0, 2), ONE), (2, (1, 1, 1), ONE),
                (2, (2, 0, 1), (2, 1)))
        leaf = ((0, (), ONE), (1, (), ONE))
        read = ("sumxturn", "Tree", (NONE, NONE, ONE))
        self.assertEqual(told, (BINARY, (3,), ((leaf, node),), (read,)))

    def test_the_coordinates_of_the_states_in_order(self):
        told = self.judged(LISTS, MIXED_FORM)
        self.assertEqual(told[1], (1 + 2 + 3 + 3,))
        self.assertEqual([name for name, _, _ in told[3]],
                         ["onexlist", "twoxitem", "twoxfirst", "threexlist"])
        self.assertEqual(told[3][2][2], (NONE,) * 6 + (NONE, (1, 2), (-3, 1)))

    def test_drawn_ones(self):
        done = 0
        for chance, rewriter in drawn_rewriters(163, 150):
            form = reference.random_form(chance, rewriter[1], 2, 0.5)
            self.judged(rewriter, form)
            done += len(form[3])
        self.assertGreater(done, 100)

    def test_a_rule_that_names_no_field_and_one_that_is_a_state(self):
        rule = (("Leaf", ()), ("Leaf", ()), ("Node", (0, 9, 1)))
        form = formed(read_program("kind Tree { Leaf() Node(Tree, number, Tree) } fun sum(Tree) {"
                                   "Leaf() = 1/2; Node(l, n, r) = (sum(l) + n + (2 * sum(r))); }"))
        told = self.judged(with_rule(MIRROR, 0, 1, rule), form)
        self.assertEqual(told[2][0][1], ((0, (0, 0, 0), ONE), (1, (0, 0, 0), ONE), (2, (0, 0, 0), (21, 2))))
        told = self.judged(with_rule(MIRROR, 0, 1, ("state", "turn", 2)), form)
        self.assertEqual(told[2][0][1], ((0, (0, 0, 0), ONE), (1, (0, 0, 1), ONE), (2, (0, 0, 2), ONE)))
        # An integer 0 leaves out what the column 1 has.
        lone = (("Node", (("state", "turn", 0), 0, ("state", "turn", 2))),)
        told = self.judged(with_rule(MIRROR, 0, 1, lone), form)
        self.assertEqual({cols[1] for _, cols, _ in told[2][0][1]}, {0})

    def test_number_fields_that_are_named(self):
        kinds = (("N", (("Two", ("number", "number")),)),)
        form = (kinds, (1,), ((((0, (0, 0), (2, 1)), (0, (0, 1), (3, 1)), (0, (1, 0), (5, 1)),
                                (0, (1, 1), (7, 1))),),), (("r", "N", (ONE,)),))
        turn = (kinds, kinds, (("s", "N", "N", ((("Two", (("number", 1), ("number", 0))),),)),))
        told = self.judged(turn, form)
        self.assertEqual(told[2][0][0][1:], ((1, (0, 0), (2, 1)), (1, (0, 1), (5, 1)),
                                             (1, (1, 0), (3, 1)), (1, (1, 1), (7, 1))))
        one = with_rule(turn, 0, 0, (("Two", (("number", 1), -1)),))
        self.assertEqual(self.judged(one, form)[2][0][0][1:], ((1, (0, 0), (-1, 1)), (1, (0, 1), (-2, 1))))

    def test_no_reads_and_no_coordinates(self):
        self.assertEqual(self.judged(MIRROR, (BINARY, (0,), (((), ()),), ()))[1:],
                         ((1,), ((((0, (), ONE),), ((0, (0, 0, 0), ONE),)),), ()))
        self.judged(LISTS, MIXED_FORM[:3] + ((),))

    def test_two_rewriters_are_compared_for_all_trees(self):
        sums = formed(read_program("kind Tree { Leaf() Node(Tree, number, Tree) } fun sum(Tree) {"
                                   "Leaf() = 0; Node(l, n, r) = (sum(l) + n + sum(r)); }"))
        stay = with_rule(MIRROR, 0, 1, (("Node", (("state", "turn", 0), ("number", 1),
                                                  ("state", "turn", 2))),))
        self.assertEqual(same(composed(MIRROR, sums), composed(stay, sums))[0], "same")
        self.assertEqual(least(composed(MIRROR, sums)), least(composed(stay, sums)))
        one = with_rule(MIRROR, 0, 1, (("Node", (("state", "turn", 0), 1, ("state", "turn", 2))),))
        told = same(composed(MIRROR, sums), composed(one, sums))
        self.assertEqual(told, ("part", "sumxturn", (("Leaf", ()), ("Node", (0, 0, 0))), NONE, ONE))

    def test_errors_in_their_order(self):
        for thing in NEVER:
            raised(BadRewriter, composed, thing, thing)
            raised(BadForm, composed, MIRROR, thing)
        raised(BadForm, composed, MIRROR, dims_form(17))
        raised(Unlike, composed, MIRROR, S)
        raised(Unlike, composed, LISTS, (BINARY, (1,), (((), ()),), ()))


class TooGreatForms(unittest.TestCase):

    def states(self, many, names=None):
        """A rewriter with so many states, each of which makes the one tree there is."""
        dot = lone_form(0)[0]
        names = names or [f"s{at}" for at in range(many)]
        return (dot, dot, tuple((name, "Dot", "Dot", ((("One", ()),),)) for name in names))

    def form(self, dim, reads):
        """A form of one tree with reads of these names."""
        leaf = tuple((at, (), ONE) for at in range(dim))
        return lone_form(dim, leaf, tuple((name, "Dot", (ONE,) * dim) for name in reads))

    def test_a_dim_above_16(self):
        self.assertEqual(composed(self.states(3), self.form(5, ["r"]))[1], (16,))
        self.assertEqual(composed(self.states(1), self.form(15, ["r"]))[1], (16,))
        raised(TooGreat, composed, self.states(4), self.form(4, ["r"]))
        raised(TooGreat, composed, self.states(1), self.form(16, []))
        raised(TooGreat, composed, self.states(8), self.form(16, []))

    def test_more_than_32_together(self):
        def rewriter(many, more):
            kinds = dims_form(0, 0, 0)[0]
            states = [(f"a{at}", "K0", "K0", ((("Z0", ()),), ("state", f"a{at}", 0))) for at in range(many)]
            states += [(f"b{at}", "K1", "K0", ((("Z0", ()),), ("state", f"b{at}", 0))) for at in range(more)]
            return (kinds, kinds, tuple(states))

        form = dims_form(5, 0, 0)
        self.assertEqual(composed(rewriter(3, 2), form)[1], (16, 11, 1))
        raised(TooGreat, composed, rewriter(3, 3), form)
        self.assertEqual(composed(rewriter(3, 3), dims_form(4, 0, 0))[1], (13, 13, 1))

    def test_more_than_sixty_reads(self):
        names = [f"r{at}" for at in range(31)]
        self.assertEqual(len(composed(self.states(2), self.form(1, names[:30]))[3]), 60)
        raised(TooGreat, composed, self.states(2), self.form(1, names))
        raised(TooGreat, composed, self.states(8), self.form(1, names))

    def test_names_of_ten_and_of_eleven_characters(self):
        for read, state in (("a" * 8, "b"), ("a", "b" * 8), ("abcd", "efghi")):
            told = composed(self.states(1, [state]), self.form(1, [read]))
            self.assertEqual(told[3][0][0], f"{read}x{state}")
            raised(TooGreat, composed, self.states(1, [state + "c"]), self.form(1, [read]))
            raised(TooGreat, composed, self.states(1, [state]), self.form(1, [read + "c"]))

    def test_equal_names(self):
        raised(TooGreat, composed, self.states(2, ["axb", "b"]), self.form(1, ["r", "rxa"]))
        self.assertEqual([read[0] for read in composed(self.states(2, ["axb", "b"]),
                                                       self.form(1, ["r", "rxc"]))[3]],
                         ["rxaxb", "rxb", "rxcxaxb", "rxcxb"])

    def test_terms_that_are_multiplied_out(self):
        # Two pairs in a pair: each of four fields has the dim of coordinates, all products come.
        kinds = (("T", (("Leaf", ()), ("Pair", ("T", "T")), ("Four", ("T",) * 4))),)
        inner = [("Pair", (("state", "s", at), ("state", "s", at + 1))) for at in (0, 2)]
        rules = ((("Leaf", ()),), (("Leaf", ()),), (*inner, ("Pair", (0, 1))))
        for dim in (2, 5, 6, 8):
            pair = tuple((row, (one, other), (row + one + 1, 1)) for row in range(dim)
                         for one in range(dim) for other in range(dim))
            form = (kinds, (dim,), ((((0, (), ONE),), pair, ()),), (("r", "T", (ONE,) * dim),))
            rewriter = (kinds, kinds, (("s", "T", "T", rules),))
            if dim < 6:
                self.assertEqual(len(composed(rewriter, form)[2][0][2]), 1 + dim ** 5)
            else:
                raised(TooGreat, composed, rewriter, form)

    def test_rows_ahead_may_have_more_terms(self):
        # Over two pairs in a pair there are 6 ** 5 products; the last row uses one coordinate of it.
        kinds = (("T", (("Leaf", ()), ("Pair", ("T", "T")), ("Top", ("T",)), ("Four", ("T",) * 4))),)
        inner = [("Pair", (("state", "s", at), ("state", "s", at + 1))) for at in (0, 2)]
        rule = (*inner, ("Pair", (0, 1)), ("Top", (2,)))
        pair = tuple((row, (one, other), (row + one + 1, 1)) for row in range(6)
                     for one in range(6) for other in range(6))
        form = (kinds, (6,), ((((0, (), ONE),), pair, ((1, (2,), ONE),), ()),), (("r", "T", (ONE,) * 6),))
        leaf = (("Leaf", ()),)
        told = composed((kinds, kinds, (("s", "T", "T", (leaf, leaf, leaf, rule)),)), form)
        self.assertEqual(len(told[2][0][3]), 1 + 6 ** 4)

    def test_4000_terms_and_one_more(self):
        # A maker with as many terms as may be, of which the row 0 is one too many.
        kinds = (("T", (("Leaf", ()), ("Many", ("T",) * 4))),)
        for dim, many, right in ((6, 3999, True), (6, 4000, False)):
            places = [(row, (one, two, three, four)) for row in range(dim) for one in range(dim)
                      for two in range(dim) for three in range(dim) for four in range(dim)][:many]
            form = (kinds, (dim,), ((((0, (), ONE),), tuple((*place, ONE) for place in places)),),
                    (("r", "T", (ONE,) * dim),))
            self.assertTrue(is_form(form))
            states = (("s", "T", "T", ((("Leaf", ()),),
                                       (("Many", tuple(("state", "s", at) for at in range(4))),))),)
            if right:
                self.assertEqual(len(composed((kinds, kinds, states), form)[2][0][1]), 4000)
            else:
                raised(TooGreat, composed, (kinds, kinds, states), form)

    def test_numbers_told(self):
        told = composed(self.states(1, ["s"]), self.form(2, ["r"]))
        rows = rows_of(told[0], "Dot", ("One",))
        self.assertEqual(number(told, "rxs", rows), (2, 1))


if __name__ == "__main__":
    unittest.main()
