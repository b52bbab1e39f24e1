"""What contexts tell of trees: covectors, and contexts whose covectors make all others."""

from sameontrees.basics import is_tuple, scaled
from sameontrees.contexts import (are_contexts, covector_behind, covector_of, place_of_context, turned,
                                  without)
from sameontrees.errors import BadContext
from sameontrees.forms import demand_wide_form, vectors_of
from sameontrees.matrices import Span, rank_of
from sameontrees.reached import (VECTORS_OF_NUMBERS, demand_rows_or_none, is_rows_or_none, reached_of,
                                 scaled_terms, spread)


def covector(form, rows, context):
    """The covector of the context."""
    demand_wide_form(form)
    demand_rows_or_none(form[0], rows)
    if place_of_context(form, rows, context) is None:
        raise BadContext("this is no context over the rows")
    return covector_of(form, vectors_of(form, rows), context)


def seen(form):
    """The rows of the basis trees, and for each kind contexts that make all others."""
    demand_wide_form(form)
    rows, basis = reached_of(form)
    found = seen_of(form, rows, basis)
    return (rows, tuple([tuple([context for context, _ in own]) for own in found]))


def is_seen(form, thing):
    """Whether thing is rows and, for each kind, contexts that make all others."""
    demand_wide_form(form)
    rows, basis = reached_of(form)
    kinds = form[0]
    if not is_tuple(thing, 2, 2):
        return False
    own_rows, contexts = thing
    if not is_rows_or_none(kinds, own_rows) or not is_tuple(contexts, len(kinds), len(kinds)):
        return False
    if not all([are_contexts(form, own_rows, name, own) for (name, _), own in zip(kinds, contexts)]):
        return False
    # They make nothing beyond what is seen; so as many as it needs, none made of others, make it.
    if [len(own) for own in contexts] != [len(own) for own in seen_of(form, rows, basis)]:
        return False
    vectors = vectors_of(form, own_rows)
    return all([rank_of([covector_of(form, vectors, context) for context in own]) == len(own)
                for own in contexts])


def seen_of(form, rows, basis):
    """For each kind a list of (context, covector), none of which is made of the others.

    They make the covectors of all contexts: rows and basis are what reached tells of the form.
    """
    kinds, _, _, reads = form
    sight = Sight(form, rows, basis)
    for index, (_, kind, vector) in enumerate(reads):
        sight.offer(kind, (index, ()), vector)
    done = 0
    # What is kept meanwhile comes behind, so it is gone on from, too.
    while done < len(sight.kept):
        sight.go_on(done)
        done += 1
    return [[(context, told) for kind, context, told in sight.kept if kind == name]
            for name, _ in kinds]


class Sight:
    """The contexts of a form that are kept so far, none of them made of those kept ahead of it.

    The choices for a field are its basis trees, by vectors of integers: of what a covector is
    made does not hang on its length, so bottoms are left out where covectors are only judged.
    """

    def __init__(self, form, rows, basis):
        kinds, dims, _, _ = form
        self.form = form
        self.makers = {name: makers for name, makers in kinds}
        self.told = vectors_of(form, rows)
        self.spans = {name: Span(dim) for (name, _), dim in zip(kinds, dims)}
        self.choices = {name: [(index, scaled(self.told[index])[0]) for index in own]
                        for (name, _), own in zip(kinds, basis)}
        self.choices["number"] = list(enumerate(VECTORS_OF_NUMBERS))
        self.turned = turned_terms(form)
        self.kept = []

    def offer(self, kind, context, told):
        """Keep the context with the covector told, if no others make it."""
        if self.spans[kind].put(told):
            self.kept.append((kind, context, told))

    def go_on(self, index):
        """Offer the contexts that have one step more than the one that is kept at the index."""
        kind, context, told = self.kept[index]
        for maker, fields in self.makers[kind]:
            for place, field in enumerate(fields):
                if field != "number":
                    self._go_into(context, told, maker, fields, place)

    def _go_into(self, context, told, maker, fields, place):
        """Offer the contexts with a step into the maker's field at the place."""
        read, steps = context
        kind = fields[place]
        span = self.spans[kind]
        if span.is_full():
            return
        tops, _ = scaled(told)
        choices = [[(0, tops)]] + [self.choices[field] for field in without(fields, place)]
        for entries, vector in spread(span.width, self.turned[(maker, place)],
                                      list(range(len(fields))), choices):
            if not span.makes(vector):
                step = (maker, place, entries[1:])
                exact = covector_behind(self.form, self.told, told, step)
                self.offer(kind, (read, steps + (step,)), exact)


def turned_terms(form):
    """A dict of integers by row and columns for each maker and place of a field that is turned."""
    found = {}
    for (_, makers), own in zip(form[0], form[2]):
        for (maker, fields), terms in zip(makers, own):
            for place in range(len(fields)):
                found[(maker, place)] = scaled_terms(turned(terms, place))[0]
    return found
