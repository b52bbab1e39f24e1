"""What the rules of a rewriter come to when a form's maps are put in for their makers."""

from sameontrees.basics import is_integer, ratio_of
from sameontrees.errors import TooGreat
from sameontrees.forms import MOST_TERMS, dim_of_kinds, maps_by_maker
from sameontrees.reached import scaled_terms
from sameontrees.rules import is_alone, rules_of
from sameontrees.trees import fields_of, makers_of


class Composer:
    """What the rules of a rewriter come to when a form's maps are put in for their makers.

    starts has, for each state, the first of its coordinates in the composed form. What rows come
    to is kept as integers by a coordinate of the form and by columns of the composed form, with
    the bottom by which they are told.
    """

    def __init__(self, rewriter, form):
        kinds, _, self.states = rewriter
        self.dim_of = dim_of_kinds(form[0], form[1])
        self.makers = makers_of(form[0])
        self.maps = {maker: scaled_terms(terms) for maker, (_, _, terms) in maps_by_maker(form).items()}
        self.rules = rules_of(rewriter)
        self.leads = {name: other for name, _, other, _ in self.states}
        self.starts = {}
        dims = {name: 1 for name, _ in kinds}
        for name, kind, other, _ in self.states:
            self.starts[name] = dims[kind]
            dims[kind] += self.dim_of[other]
        self.dims = tuple([dims[name] for name, _ in kinds])

    def terms_behind(self, kind, maker):
        """The terms of the kind's maker in the composed form."""
        word, fields = maker
        terms = [(0, (0,) * len(fields), (1, 1))]
        for name, own, _, _ in self.states:
            if own == kind:
                terms.extend(self._terms_by_rule(self.rules[(name, word)], self.starts[name], len(fields)))
        if len(terms) > MOST_TERMS:
            raise TooGreat("a maker of the form behind the rewriter has too many terms")
        return tuple(terms)

    def _terms_by_rule(self, rule, start, many):
        """A list of the terms by the rule of a maker with so many fields, their rows from start on."""
        if is_alone(rule):
            _, state, field = rule
            tops, bottom = self._tree_of_state(state, field, many), 1
        else:
            found = []
            for row in rule[:-1]:
                found.append(self._rule_row(row, found, many, False))
            tops, bottom = self._rule_row(rule[-1], found, many, True)
        return [(start + row, cols, ratio_of(tops[(row, cols)], bottom)) for row, cols in sorted(tops)]

    def _rule_row(self, rule_row, found, many, is_last):
        """What the row of a rule comes to, behind what is found of those ahead of it.

        It stops where there are too many terms, if the row is the last one of the rule.
        """
        maker, entries = rule_row
        tops, bottom = self.maps[maker]
        choices = []
        for field, entry in zip(fields_of(self.makers, maker), entries):
            told, below = self._entry(field, entry, found, many)
            choices.append(told)
            bottom *= below
        open_terms = {}
        for (row, cols), top in tops.items():
            if row not in open_terms:
                open_terms[row] = {}
            open_terms[row][(cols, (0,) * many)] = top
        sums = {}
        for row in open_terms:
            closed = open_terms[row]
            for told in choices:
                closed = _put_in(closed, told)
            for (_, used), top in closed.items():
                sums[(row, used)] = top
            if is_last and len(sums) > MOST_TERMS:
                raise TooGreat("a maker of the form behind the rewriter has too many terms")
        return (sums, bottom)

    def _entry(self, field, entry, found, many):
        """Integers by coordinate and columns that the entry comes to, and their bottom."""
        unused = (0,) * many
        if field == "number":
            at_1 = {unused: entry} if is_integer(entry) else {_using(entry[1], 1, many): 1}
            return ({0: {unused: 1}, 1: at_1}, 1)
        if is_integer(entry):
            tops, bottom = found[entry]
        else:
            _, state, place = entry
            tops, bottom = self._tree_of_state(state, place, many), 1
        choices = {}
        for (row, used), top in tops.items():
            if row not in choices:
                choices[row] = {}
            choices[row][used] = top
        return (choices, bottom)

    def _tree_of_state(self, state, field, many):
        """What the tree comes to that the state makes of the field."""
        dim = self.dim_of[self.leads[state]]
        return {(row, _using(field, self.starts[state] + row, many)): 1 for row in range(dim)}


def _using(field, col, many):
    """The columns of so many fields that use the field at the column, and no other one."""
    return tuple([col if place == field else 0 for place in range(many)])


def _put_in(open_terms, choices):
    """Integers by columns that are left and columns used, behind the first of those that were left."""
    sums = {}
    for (cols, used), top in open_terms.items():
        for more, factor in choices.get(cols[0], {}).items():
            # A field is used just once, so one of both columns of each field is 0.
            key = (cols[1:], tuple([one + other for one, other in zip(used, more)]))
            sums[key] = sums.get(key, 0) + top * factor
    return {key: top for key, top in sums.items() if top != 0}
