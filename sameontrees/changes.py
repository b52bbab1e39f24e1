"""Forms in other coordinates.

A change of a kind is a pair (outward, inward) of matrices: the new vector of a tree is the product
of outward and its old vector; where maps and reads use the old vector, they come to use the product
of inward and the new one. So outward has a row for each new coordinate, inward for each old one.
"""

from sameontrees.basics import ratio_of, scaled
from sameontrees.forms import MOST_TERMS
from sameontrees.matrices import product_of_matrices, transposed
from sameontrees.reached import scaled_terms


def changed(form, changes):
    """The form behind a change for each kind, None if a maker has too many terms for a form."""
    kinds, _, maps, reads = form
    change_of = {name: change for (name, _), change in zip(kinds, changes)}
    found = []
    for (name, makers), own in zip(kinds, maps):
        of_kind = [_terms_changed(change_of, name, fields, terms)
                   for (_, fields), terms in zip(makers, own)]
        if None in of_kind:
            return None
        found.append(tuple(of_kind))
    new_reads = [(name, kind, _read_changed(change_of[kind][1], vector))
                 for name, kind, vector in reads]
    dims = tuple([len(outward) for outward, _ in changes])
    return (kinds, dims, tuple(found), tuple(new_reads))


def with_columns_changed(change_of, fields, terms):
    """The terms of a maker with these fields with the old columns exchanged by the new ones."""
    tops, bottom = _flat(terms)
    for place, field in enumerate(fields):
        if field != "number":
            _, inward = change_of[field]
            tops, bottom = _exchanged(tops, bottom, 1 + place, inward)
    return _as_terms(tops, bottom)


def with_rows_changed(outward, terms):
    """The terms with their rows mixed by the matrix outward."""
    tops, bottom = _flat(terms)
    width = len(outward[0]) if len(outward) > 0 else 0
    if width == 0:
        return ()
    tops, bottom = _exchanged(tops, bottom, 0, transposed(outward, width))
    return _as_terms(tops, bottom)


def _terms_changed(change_of, kind, fields, terms):
    """The terms of a maker behind the change, None if they are too many for a form."""
    outward, _ = change_of[kind]
    mixed = with_rows_changed(outward, terms)
    found = []
    # Row by row, as it often shows early that there are too many.
    for row in range(len(outward)):
        own = [term for term in mixed if term[0] == row]
        found.extend(with_columns_changed(change_of, fields, own))
        if len(found) > MOST_TERMS:
            return None
    return tuple(found)


def _read_changed(inward, vector):
    """The vector of a read, in the new coordinates."""
    (row,) = product_of_matrices((vector,), inward)
    return row


def _flat(terms):
    """A dict of integers by (row, column, column, ..), and the bottom by which they are the terms."""
    tops, bottom = scaled_terms(terms)
    return ({(row,) + cols: top for (row, cols), top in tops.items()}, bottom)


def _exchanged(tops, bottom, place, matrix):
    """Integers and bottom with the coordinate at the place exchanged by what its row tells."""
    parts, below = _scaled_rows(matrix)
    sums = {}
    for key, top in tops.items():
        ahead = key[:place]
        behind = key[place + 1:]
        for coordinate, weight in parts[key[place]]:
            fresh = ahead + (coordinate,) + behind
            sums[fresh] = sums.get(fresh, 0) + top * weight
    return ({key: top for key, top in sums.items() if top != 0}, bottom * below)


def _scaled_rows(matrix):
    """For each row a list of (place, integer) that are not 0, and the bottom of all integers."""
    tops, bottom = scaled([ratio for row in matrix for ratio in row])
    width = len(matrix[0]) if len(matrix) > 0 else 0
    rows = [tops[at * width:(at + 1) * width] for at in range(len(matrix))]
    return ([[(place, top) for place, top in enumerate(row) if top != 0] for row in rows], bottom)


def _as_terms(tops, bottom):
    """The terms, ascending."""
    return tuple([(key[0], key[1:], ratio_of(tops[key], bottom)) for key in sorted(tops)])
