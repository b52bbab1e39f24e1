"""Contexts: judged, and the covectors by which they tell numbers."""

from sameontrees.basics import is_below, is_integer, is_tuple
from sameontrees.forms import dim_of_kinds, maps_by_maker, parts_of_entries, vector_of_maker
from sameontrees.reached import is_index, kinds_of_rows
from sameontrees.trees import fields_of, kind_of, makers_of

MOST_STEPS = 96


def place_of_context(form, rows, thing):
    """The name of the kind that thing is a context of, None if it is no context over the rows."""
    kinds, _, _, reads = form
    if not is_tuple(thing, 2, 2):
        return None
    read, steps = thing
    if not is_below(read, len(reads)) or not is_tuple(steps, 0, MOST_STEPS):
        return None
    makers = makers_of(kinds)
    found = kinds_of_rows(kinds, rows)
    _, kind, _ = reads[read]
    for step in steps:
        if not _is_step(makers, found, kind, step):
            return None
        maker, place, _ = step
        kind = fields_of(makers, maker)[place]
    return kind


def are_contexts(form, rows, kind, thing):
    """Whether thing is a tuple of contexts of the kind over the rows."""
    return (isinstance(thing, tuple)
            and all([place_of_context(form, rows, context) == kind for context in thing]))


def covector_of(form, vectors, context):
    """The covector of a context over rows whose trees have these vectors."""
    read, steps = context
    _, _, covector = form[3][read]
    for step in steps:
        covector = covector_behind(form, vectors, covector, step)
    return covector


def covector_behind(form, vectors, covector, step):
    """The covector behind a step, found from the one ahead of it."""
    kinds, dims, _, _ = form
    maker, place, entries = step
    _, fields, terms = maps_by_maker(form)[maker]
    parts = parts_of_entries(vectors, without(fields, place), entries)
    dim = dim_of_kinds(kinds, dims)[fields[place]]
    return vector_of_maker(dim, turned(terms, place), [covector] + parts)


def turned(terms, place):
    """The terms with the column at the place as row, and the row as the first of the columns.

    So a step is like a maker whose fields are the covector ahead and the entries.
    """
    return [(cols[place], (row,) + without(cols, place), ratio) for row, cols, ratio in terms]


def without(entries, place):
    """The tuple without the entry at the place."""
    return entries[:place] + entries[place + 1:]


def _is_step(makers, found, kind, thing):
    """Whether thing is a step at the kind, found being the kinds of the rows' trees."""
    if not is_tuple(thing, 3, 3):
        return False
    maker, place, entries = thing
    if not isinstance(maker, str) or maker not in makers or kind_of(makers, maker) != kind:
        return False
    fields = fields_of(makers, maker)
    if not is_below(place, len(fields)) or fields[place] == "number":
        return False
    others = without(fields, place)
    return (is_tuple(entries, len(others), len(others))
            and all([is_integer(entry) if field == "number" else is_index(found, field, entry)
                     for field, entry in zip(others, entries)]))
