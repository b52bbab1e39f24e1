"""Two forms side by side, and the least tree of which they tell unlike numbers."""

from sameontrees.basics import times_vector
from sameontrees.errors import NotSame, Unlike
from sameontrees.forms import demand_form, vectors_of
from sameontrees.reached import reached_of
from sameontrees.trees import makers_of, rows_of_tree


def demand_comparable(one, other):
    """Raise the error of the first argument that is not right."""
    demand_form(one)
    demand_form(other)
    demand_like(one, other)


def demand_like(one, other):
    """Raise Unlike if two forms have not the same kinds and reads of the same names and kinds."""
    if one[0] != other[0] or heads_of(one) != heads_of(other):
        raise Unlike("the forms have not the same kinds, or not the same reads")


def heads_of(form):
    """The name and kind of each read."""
    return tuple([(name, kind) for name, kind, _ in form[3]])


def joint_of(one, other):
    """The form with the vectors of both, whose reads tell the differences."""
    kinds, dims, maps, reads = one
    _, other_dims, other_maps, other_reads = other
    shift_of = {name: dim for (name, _), dim in zip(kinds, dims)}
    shift_of["number"] = 0
    joined = []
    for (name, makers), own, more in zip(kinds, maps, other_maps):
        joined.append(tuple([terms + _shifted(shift_of, name, fields, behind)
                             for (_, fields), terms, behind in zip(makers, own, more)]))
    differences = [(name, kind, vector + tuple([(-top, bottom) for top, bottom in behind]))
                   for (name, kind, vector), (_, _, behind) in zip(reads, other_reads)]
    together = tuple([dim + behind for dim, behind in zip(dims, other_dims)])
    return (kinds, together, tuple(joined), tuple(differences))


def joint_reached(one, other):
    """(joint form, rows, basis, part) of comparable forms.

    Rows and basis are what reached tells of the joint form; part is None if the forms tell the
    same, else the tuple of five that tells the least tree that parts them.
    """
    joined = joint_of(one, other)
    rows, basis = reached_of(joined)
    part = _part_among(one, other, joined, rows, basis)
    return (joined, rows, basis, part)


def demand_same(one, other):
    """Raise NotSame if comparable forms tell unlike numbers of some tree."""
    _, _, _, part = joint_reached(one, other)
    if part is not None:
        raise NotSame(part)


def _shifted(shift_of, kind, fields, terms):
    """The terms of a maker of the kind with their coordinates behind those of the other form."""
    shifts = [shift_of[field] for field in fields]
    return tuple([(row + shift_of[kind], tuple([col + shift for col, shift in zip(cols, shifts)]),
                   ratio) for row, cols, ratio in terms])


def _part_among(one, other, joined, rows, basis):
    """The tuple of five of the least basis tree that parts by the first read that does."""
    kinds, _, _, reads = joined
    vectors = vectors_of(joined, rows)
    basis_of = {name: own for (name, _), own in zip(kinds, basis)}
    for place, (name, kind, vector) in enumerate(reads):
        for index in basis_of[kind]:
            if times_vector(vector, vectors[index])[0] != 0:
                own = rows_of_tree(makers_of(kinds), rows, index)
                left, right = [times_vector(form[3][place][2], vectors_of(form, own)[-1])
                               for form in (one, other)]
                return ("part", name, own, left, right)
    return None
