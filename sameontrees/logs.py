"""Logs of steps, each of which changes a form and keeps what its reads tell."""

from sameontrees.basics import is_below, is_tuple, unit
from sameontrees.changes import changed, with_columns_changed, with_rows_changed
from sameontrees.errors import BadLog, NotLet
from sameontrees.forms import demand_form, is_form
from sameontrees.matrices import are_inverse, is_square_of, is_vector, transposed

MOST_STEPS_OF_LOG = 60


def stepped(form, step):
    """The form behind the step."""
    return replayed(form, (step,))


def replayed(form, log):
    """The form behind all steps of the log."""
    demand_form(form)
    if not is_tuple(log, 0, MOST_STEPS_OF_LOG):
        raise BadLog("this is no log")
    for index, step in enumerate(log):
        form = behind(form, step)
        if form is None:
            raise NotLet(index)
    return form


def behind(form, step):
    """The form behind any object as a step, None if it is no step or is not let."""
    if not is_tuple(step, 2, 3) or not isinstance(step[0], str):
        return None
    if step[0] == "back":
        return _behind_back(form, step)
    return _behind_onward(form, step)


def _behind_back(form, step):
    """The form behind a step back, None if it is none or is not let."""
    if len(step) != 3:
        return None
    _, ahead, onward = step
    if not is_form(ahead) or _behind_onward(ahead, onward) != form:
        return None
    return ahead


def _behind_onward(form, step):
    """The form behind any object as a step that is no back, None if it is none or is not let."""
    if not is_tuple(step, 2, 2) or not isinstance(step[0], str):
        return None
    changes = _changes(form, step)
    return None if changes is None else changed(form, changes)


def _changes(form, step):
    """The change of each kind that the step makes, None if it is no step or is not let."""
    word, parts = step
    kinds, dims, _, _ = form
    if not is_tuple(parts, len(kinds), len(kinds)):
        return None
    pairs = list(zip(dims, parts))
    if word == "base":
        return list(parts) if all([_is_base(dim, part) for dim, part in pairs]) else None
    if word == "merge" and all([_is_merge(dim, part) for dim, part in pairs]):
        changes = [_change_of_merge(dim, part) for dim, part in pairs]
        return changes if _is_merge_let(form, changes) else None
    if word == "unseen" and all([_are_coordinates(dim, part) for dim, part in pairs]):
        changes = [_change_of_unseen(dim, part) for dim, part in pairs]
        return changes if _is_unseen_let(form, parts) else None
    return None


def _is_base(dim, thing):
    """Whether thing is a matrix and its inverse for a kind of the dim."""
    if not is_tuple(thing, 2, 2) or not all([is_square_of(matrix, dim) for matrix in thing]):
        return False
    matrix, inverse = thing
    return are_inverse(matrix, inverse)


def _is_merge(dim, thing):
    """Whether thing is pairs (coordinate, weights) for a kind of the dim."""
    if not isinstance(thing, tuple) or not all(is_tuple(pair, 2, 2) for pair in thing):
        return False
    kept = dim - len(thing)
    return (_are_coordinates(dim, tuple([coordinate for coordinate, _ in thing]))
            and all([is_vector(weights) and len(weights) == kept for _, weights in thing]))


def _are_coordinates(dim, thing):
    """Whether thing is an ascending tuple of coordinates of a kind of the dim."""
    if not isinstance(thing, tuple) or not all(is_below(coordinate, dim) for coordinate in thing):
        return False
    return all(one < other for one, other in zip(thing, thing[1:]))


def _change_of_merge(dim, part):
    """The change by which the named coordinates of a kind are exchanged by the kept ones."""
    weights_of = dict(part)
    kept = [coordinate for coordinate in range(dim) if coordinate not in weights_of]
    inward = [weights_of[coordinate] if coordinate in weights_of
              else unit(len(kept), kept.index(coordinate)) for coordinate in range(dim)]
    return (tuple([unit(dim, coordinate) for coordinate in kept]), tuple(inward))


def _is_merge_let(form, changes):
    """Whether each maker's rows, over the new columns, are what those of the kept ones make."""
    kinds, _, maps, _ = form
    change_of = {name: change for (name, _), change in zip(kinds, changes)}
    for (name, makers), own in zip(kinds, maps):
        outward, inward = change_of[name]
        for (_, fields), terms in zip(makers, own):
            rows = with_columns_changed(change_of, fields, terms)
            if with_rows_changed(inward, with_rows_changed(outward, rows)) != rows:
                return False
    return True


def _change_of_unseen(dim, part):
    """The change by which the named coordinates of a kind fall away."""
    outward = tuple([unit(dim, coordinate) for coordinate in range(dim) if coordinate not in part])
    return (outward, transposed(outward, dim))


def _is_unseen_let(form, parts):
    """Whether no read and no kept row of a maker uses a coordinate that parts name."""
    kinds, _, maps, reads = form
    named = {name: part for (name, _), part in zip(kinds, parts)}
    for _, kind, vector in reads:
        if any([vector[coordinate][0] != 0 for coordinate in named[kind]]):
            return False
    for (name, makers), own in zip(kinds, maps):
        for (_, fields), terms in zip(makers, own):
            for row, cols, _ in terms:
                if row not in named[name] and _is_one_named(named, fields, cols):
                    return False
    return True


def _is_one_named(named, fields, cols):
    """Whether a column is a named coordinate of its field's kind."""
    return any([field != "number" and col in named[field] for field, col in zip(fields, cols)])
