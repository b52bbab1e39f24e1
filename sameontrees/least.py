"""Least forms, tables that show that no form has fewer coordinates, and what leads between them."""

from sameontrees.basics import is_tuple, times_vector
from sameontrees.changes import changed
from sameontrees.contexts import are_contexts, covector_of
from sameontrees.errors import NotLeast, TooGreat
from sameontrees.forms import demand_form, vectors_of
from sameontrees.joined import demand_comparable, demand_same
from sameontrees.matrices import (Span, are_inverse, inverse_of, is_matrix, is_square, is_square_of,
                                  product_of_matrices, transposed)
from sameontrees.reached import are_indexes, demand_rows_or_none, kinds_of_rows, reached_of
from sameontrees.seen import seen_of
from sameontrees.trees import demand_kind


def least(form):
    """The least form, whose coordinates are weights of state trees."""
    demand_form(form)
    rows, found = states_of(form)
    vectors = vectors_of(form, rows)
    changes = []
    for dim, (trees, _, covectors, inverse) in zip(form[1], found):
        # What the contexts tell of a tree, times the inverse of the table, are its weights.
        weights = product_of_matrices(transposed(inverse, len(trees)), covectors)
        changes.append((weights, transposed([vectors[index] for index in trees], dim)))
    told = changed(form, changes)
    if told is None:
        raise TooGreat("a maker of the least form has too many terms")
    return told


def tables(form):
    """The rows of the basis trees, and for each kind state trees, contexts, and their inverse."""
    demand_form(form)
    rows, found = states_of(form)
    return (rows, tuple([(trees, contexts, inverse) for trees, contexts, _, inverse in found]))


def is_table(form, rows, kind, thing):
    """Whether thing is trees and contexts of the kind and the inverse of what these tell of those."""
    demand_form(form)
    kinds = form[0]
    demand_rows_or_none(kinds, rows)
    demand_kind(kinds, kind)
    if not is_tuple(thing, 3, 3):
        return False
    trees, contexts, inverse = thing
    if not is_matrix(inverse) or not is_square(inverse):
        return False
    if not are_indexes(kinds_of_rows(kinds, rows), kind, trees) or len(trees) != len(inverse):
        return False
    if not are_contexts(form, rows, kind, contexts) or len(contexts) != len(inverse):
        return False
    vectors = vectors_of(form, rows)
    covectors = [covector_of(form, vectors, context) for context in contexts]
    return are_inverse(_table([vectors[index] for index in trees], covectors), inverse)


def between(one, other):
    """For each kind the matrix that makes of one's vector of each tree the vector of other."""
    demand_comparable(one, other)
    demand_same(one, other)
    rows, found = states_of(one)
    dims = tuple([len(trees) for trees, _, _, _ in found])
    if one[1] != dims or other[1] != dims:
        raise NotLeast("a form has more coordinates than its least form")
    vectors = vectors_of(one, rows)
    other_vectors = vectors_of(other, rows)
    matrices = []
    for dim, (trees, _, _, _) in zip(dims, found):
        back = inverse_of([vectors[index] for index in trees])
        matrix = product_of_matrices(back, [other_vectors[index] for index in trees])
        matrices.append(transposed(matrix, dim))
    return tuple(matrices)


def is_between(one, other, thing):
    """Whether thing is a matrix with an inverse for each kind by which one becomes other."""
    demand_comparable(one, other)
    kinds, dims, _, _ = one
    if other[1] != dims or not is_tuple(thing, len(kinds), len(kinds)):
        return False
    if not all([is_square_of(matrix, dim) for matrix, dim in zip(thing, dims)]):
        return False
    inverses = [inverse_of(matrix) for matrix in thing]
    return None not in inverses and changed(one, list(zip(thing, inverses))) == other


def states_of(form):
    """The rows of the basis trees, and (trees, contexts, covectors, inverse) for each kind.

    Trees are the indexes of the state trees, contexts as many of those that make all others;
    the inverse is that of the table of what the contexts tell of the trees.
    """
    rows, basis = reached_of(form)
    vectors = vectors_of(form, rows)
    found = [_states_of_kind(vectors, own, told)
             for own, told in zip(basis, seen_of(form, rows, basis))]
    return (rows, found)


def _states_of_kind(vectors, basis, told):
    """What states_of tells of a kind with these basis trees and pairs (context, covector)."""
    table = _table([vectors[index] for index in basis], [covector for _, covector in told])
    kept = _kept_of(len(told), table)
    columns = transposed([table[place] for place in kept], len(told))
    chosen = _kept_of(len(kept), columns)
    trees = tuple([basis[place] for place in kept])
    contexts = tuple([told[place][0] for place in chosen])
    covectors = [told[place][1] for place in chosen]
    inverse = inverse_of(transposed([columns[place] for place in chosen], len(kept)))
    return (trees, contexts, covectors, inverse)


def _kept_of(width, rows):
    """The places of the rows that are not made of those ahead of them."""
    span = Span(width)
    return [place for place, row in enumerate(rows) if span.put(row)]


def _table(vectors, covectors):
    """The matrix of what the covectors tell of the vectors, a row for each vector."""
    return tuple([tuple([times_vector(covector, vector) for covector in covectors])
                  for vector in vectors])
