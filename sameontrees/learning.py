"""Forms learned from a teacher, who tells numbers of single trees and trees that part forms."""

from sameontrees.basics import sum_of, times_vector, unit
from sameontrees.errors import TooGreat
from sameontrees.forms import (MOST_TERMS, demand_form, maps_by_maker, number_of, parts_of_entries,
                               vector_of_maker)
from sameontrees.grove import Grove
from sameontrees.joined import demand_like, heads_of, joint_reached
from sameontrees.least import least
from sameontrees.matrices import inverse_of, product_of_matrices
from sameontrees.trees import MOST_ROWS, kind_of, with_trees

MOST_ROWS_OF_PART = 40


class Teacher:
    """One who knows a form and tells of it, and counts what is asked."""

    def __init__(self, form):
        demand_form(form)
        self._form = form
        self._numbers_told = 0
        self._parts_told = 0
        self._most_rows_told = 0

    def kinds(self):
        """The kinds of the form."""
        return self._form[0]

    def reads(self):
        """The name and kind of each read of the form."""
        return heads_of(self._form)

    def number(self, name, rows):
        """The ratio that the read with the name tells of the rows' tree."""
        told = number_of(self._form, name, rows)
        self._numbers_told += 1
        return told

    def parts(self, form):
        """None if the form tells the same, else (name, rows) of a tree that parts it."""
        demand_form(form)
        demand_like(form, self._form)
        _, _, _, part = joint_reached(form, self._form)
        if part is None:
            self._parts_told += 1
            return None
        _, name, rows, _, _ = part
        if len(rows) > MOST_ROWS_OF_PART:
            raise TooGreat("the tree that parts the forms has too many rows")
        self._parts_told += 1
        self._most_rows_told = max(self._most_rows_told, len(rows))
        return (name, rows)

    def asked(self):
        """How often number and parts told something, and the most rows that parts told."""
        return (self._numbers_told, self._parts_told, self._most_rows_told)


def learn(teacher):
    """The least form of the teacher's form."""
    lesson = Lesson(teacher)
    form = lesson.guess()
    part = teacher.parts(form)
    while part is not None:
        _, rows = part
        lesson.take(form, rows)
        form = lesson.guess()
        part = teacher.parts(form)
    return least(form)


class Lesson:
    """What a teacher told so far, and for each kind as many trees as contexts.

    The table of what the contexts tell of the trees has an inverse. So what they tell of another
    tree gives weights by which the trees make it, as far as these contexts tell; the weights are
    the coordinates of the guess. A context is (name of a read, steps from the outside in), each
    step (maker, place, entries) with an entry for each field, the one at the place being of no
    account. Trees are indexes in the grove.
    """

    def __init__(self, teacher):
        self.teacher = teacher
        self.grove = Grove(teacher.kinds())
        self.numbers = {}
        self.trees = {name: [] for name, _ in teacher.kinds()}
        self.contexts = {name: [] for name, _ in teacher.kinds()}

    def guess(self):
        """The form by the trees and contexts so far."""
        kinds = self.teacher.kinds()
        maps = [self._maps_of_kind(name, makers) for name, makers in kinds]
        reads = [(name, kind, tuple([self._number(name, tree) for tree in self.trees[kind]]))
                 for name, kind in self.teacher.reads()]
        dims = tuple([len(self.trees[name]) for name, _ in kinds])
        if any([len(terms) > MOST_TERMS for own in maps for terms in own]):
            raise TooGreat("a maker of the form that is learned has too many terms")
        return (kinds, dims, tuple(maps), tuple(reads))

    def take(self, form, rows):
        """Take a tree and a context that part the guess from the teacher's form.

        A read tells unlike numbers of a tree of the rows. From its root on, each part is exchanged
        for kept trees as long as the context around it still tells unlike numbers; a part that can
        not be exchanged so is gone into, with the context around it.
        """
        indexes = self.grove.put_all(rows)
        name, at, vectors = self._first_parted(form, rows, indexes)
        steps = ()
        place, entries = self._exchanged(form, (name, steps), rows[at], vectors, indexes)
        while place is not None:
            maker, parts = rows[at]
            steps = steps + ((maker, place, entries),)
            at = parts[place]
            place, entries = self._exchanged(form, (name, steps), rows[at], vectors, indexes)
        maker, _ = rows[at]
        kind = kind_of(self.grove.makers, maker)
        self.trees[kind].append(self.grove.put(maker, entries))
        self.contexts[kind].append((name, steps))

    def _first_parted(self, form, rows, indexes):
        """(name, index, vectors): a read that parts the guess, by the first row's tree that does so.

        It may come long ahead of the last row, where what the guess tells may be very great.
        """
        maps = maps_by_maker(form)
        vectors = []
        for index, (maker, entries) in enumerate(rows):
            dim, fields, terms = maps[maker]
            vectors.append(vector_of_maker(dim, terms, parts_of_entries(vectors, fields, entries)))
            for name, kind, vector in form[3]:
                if kind == kind_of(self.grove.makers, maker):
                    if times_vector(vector, vectors[index]) != self._number(name, indexes[index]):
                        return (name, index, vectors)
        return None

    def _exchanged(self, form, context, row, vectors, indexes):
        """(place, entries): the row's entries, exchanged for kept trees ahead of the place.

        Place is that of a part that can not be exchanged, None if all are.
        """
        maker, own = row
        dim, fields, terms = maps_by_maker(form)[maker]
        known = [self._number_in(context, tree)
                 for tree in self.trees[kind_of(self.grove.makers, maker)]]
        entries = with_trees(fields, own, indexes)
        weights = tuple(parts_of_entries(vectors, fields, own))
        for place, field in enumerate(fields):
            choices = self._choices(field, own[place], weights[place])
            told = [self._number_over(context, maker, _with_entry(entries, place, entry))
                    for _, entry, _ in choices]
            made = times_vector([weight for weight, _, _ in choices], told)
            # For an integer this never is so: what it makes, 0 and 1 make.
            if made != self._number_over(context, maker, entries):
                return (place, entries)
            over = [_with_entry(weights, place, vector) for _, _, vector in choices]
            guessed = [times_vector(known, vector_of_maker(dim, terms, parts)) for parts in over]
            # The guess is wrong over the part, so it is wrong over one of those that make it.
            wrong = [one == other for one, other in zip(guessed, told)].index(False)
            _, entry, _ = choices[wrong]
            entries = _with_entry(entries, place, entry)
            weights = over[wrong]
        return (None, entries)

    def _choices(self, field, entry, weights):
        """A list of (weight, entry, vector) by which kept trees, or 0 and 1, make what is there."""
        if field == "number":
            choices = [((1 - entry, 1), 0, ((1, 1), (0, 1))), ((entry, 1), 1, ((1, 1), (1, 1)))]
        else:
            trees = self.trees[field]
            choices = [(weight, tree, unit(len(trees), place))
                       for place, (weight, tree) in enumerate(zip(weights, trees))]
        return [choice for choice in choices if choice[0][0] != 0]

    def _maps_of_kind(self, kind, makers):
        """The terms of the guess for each maker of the kind."""
        contexts = self.contexts[kind]
        table = [[self._number_in(context, tree) for context in contexts] for tree in self.trees[kind]]
        inverse = inverse_of(table)
        return tuple([self._terms_of_maker(contexts, inverse, maker, fields)
                      for maker, fields in makers])

    def _terms_of_maker(self, contexts, inverse, maker, fields):
        """The terms of the guess for the maker."""
        if len(contexts) == 0:
            return ()
        widths = [2 if field == "number" else len(self.trees[field]) for field in fields]
        weights_at = {}
        for cols in _places_within(widths):
            entries = tuple([col if field == "number" else self.trees[field][col]
                             for field, col in zip(fields, cols)])
            told = tuple([self._number_over(context, maker, entries) for context in contexts])
            (weights,) = product_of_matrices((told,), inverse)
            weights_at[cols] = weights
        for place, field in enumerate(fields):
            if field == "number":
                weights_at = _less_at_0(weights_at, place)
        return tuple([(row, cols, weights_at[cols][row])
                      for row in range(len(contexts)) for cols in sorted(weights_at)
                      if weights_at[cols][row][0] != 0])

    def _number_over(self, context, maker, entries):
        """What the context tells of the maker over the entries."""
        return self._number_in(context, self.grove.put(maker, entries))

    def _number_in(self, context, tree):
        """What the context tells of the tree."""
        name, steps = context
        for maker, place, entries in reversed(steps):
            tree = self.grove.put(maker, _with_entry(entries, place, tree))
        return self._number(name, tree)

    def _number(self, name, tree):
        """What the read with the name tells of the tree, asked of the teacher just once."""
        if (name, tree) not in self.numbers:
            rows = self.grove.rows_at(tree)
            if len(rows) > MOST_ROWS:
                raise TooGreat("a tree to ask for has too many rows")
            self.numbers[(name, tree)] = self.teacher.number(name, rows)
        return self.numbers[(name, tree)]


def _with_entry(entries, place, entry):
    """The tuple with the entry at the place."""
    return entries[:place] + (entry,) + entries[place + 1:]


def _places_within(widths):
    """A list of all tuples of places below the widths, ascending."""
    found = [()]
    for width in widths:
        found = [places + (place,) for places in found for place in range(width)]
    return found


def _less_at_0(weights_at, place):
    """What stands at 1 of a number field less what stands at 0, where columns have 1 at the place."""
    return {cols: weights if cols[place] == 0
            else _difference(weights, weights_at[_with_entry(cols, place, 0)])
            for cols, weights in weights_at.items()}


def _difference(one, other):
    """The difference of two vectors."""
    return tuple([sum_of([entry, (-top, bottom)]) for entry, (top, bottom) in zip(one, other)])
