"""The way of steps from a form to its least form."""

from sameontrees.basics import unit
from sameontrees.errors import TooGreat
from sameontrees.forms import vectors_of
from sameontrees.logs import behind
from sameontrees.matrices import Span, identity, inverse_of, transposed
from sameontrees.reached import reached_of
from sameontrees.seen import seen_of


def way_to_least(form):
    """(forms, steps): the form and those behind each of the steps, the last of them the least form.

    Up to the last step as many of the form's own coordinates are kept as can be: coordinates that
    are mixed have more terms, and forms on the way may have too many.
    """
    way = Way(form)
    rows, basis = reached_of(form)
    way.go("merge", _merge_of(form, rows, basis))
    parts, unseen = _base_with_unseen_last(way.last(), rows, basis)
    way.go("base", parts)
    way.go("unseen", unseen)
    way.go("base", _base_to_states(way.last(), rows, basis))
    return (way.forms, way.steps)


class Way:
    """Forms and the steps that lead from each to the next one."""

    def __init__(self, form):
        self.forms = [form]
        self.steps = []

    def last(self):
        """The form behind all steps."""
        return self.forms[-1]

    def go(self, word, parts):
        """Take the step of this word, if it is one that changes coordinates."""
        if not _changes_something(word, parts):
            return
        form = behind(self.last(), (word, parts))
        # Each step on the way is let, so it is the bound of a form that is not kept.
        if form is None:
            raise TooGreat("a form on the way to the least form has too many terms")
        self.forms.append(form)
        self.steps.append((word, parts))


def _changes_something(word, parts):
    """Whether a step names a coordinate, or has a matrix other than the identity."""
    if word == "base":
        return any([matrix != identity(len(matrix)) for matrix, _ in parts])
    return any([len(part) > 0 for part in parts])


def _merge_of(form, rows, basis):
    """The parts of the merge that keeps as many coordinates of a kind as it has basis trees."""
    vectors = vectors_of(form, rows)
    parts = []
    for dim, own in zip(form[1], basis):
        span = Span(len(own))
        columns = transposed([vectors[index] for index in own], dim)
        named = [coordinate for coordinate in range(dim) if not span.put(columns[coordinate])]
        parts.append(tuple([(coordinate, span.weights(columns[coordinate])) for coordinate in named]))
    return tuple(parts)


def _base_with_unseen_last(form, rows, basis):
    """The parts of a base by which the last coordinates are unseen, and these coordinates."""
    parts = []
    unseen = []
    for dim, told in zip(form[1], seen_of(form, rows, basis)):
        span = Span(dim)
        for _, covector in told:
            span.put(covector)
        rest = [unit(dim, place) for place in range(dim) if place not in span.pivots]
        matrix = span.reduced() + tuple(rest)
        parts.append((matrix, inverse_of(matrix)))
        unseen.append(tuple(range(len(told), dim)))
    return (tuple(parts), tuple(unseen))


def _base_to_states(form, rows, basis):
    """The parts of the base that makes weights of state trees of coordinates that all are seen."""
    vectors = vectors_of(form, rows)
    parts = []
    for dim, own in zip(form[1], basis):
        span = Span(dim)
        states = [vectors[index] for index in own if span.put(vectors[index])]
        back = transposed(states, dim)
        parts.append((inverse_of(back), back))
    return tuple(parts)
