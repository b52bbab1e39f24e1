"""Two forms: shown to tell the same of all trees, or parted by the least tree."""

from sameontrees.basics import is_ratio, is_tuple, times_vector
from sameontrees.errors import NotSame
from sameontrees.forms import number_of, vectors_of
from sameontrees.joined import demand_comparable, joint_of, joint_reached
from sameontrees.reached import is_closing_of, sums_over
from sameontrees.trees import is_rows, kind_of, makers_of
from sameontrees.ways import way_to_least


def joint(one, other):
    """The form with the vectors of both, whose reads tell the differences."""
    demand_comparable(one, other)
    return joint_of(one, other)


def same(one, other):
    """("same", closing of the joint form), or ("part", name, rows, left, right)."""
    demand_comparable(one, other)
    joined, rows, basis, part = joint_reached(one, other)
    if part is not None:
        return part
    return ("same", (rows, basis, sums_over(joined, rows, basis)))


def is_same(one, other, thing):
    """Whether thing is a closing of the joint form that shows that its reads tell 0."""
    demand_comparable(one, other)
    joined = joint_of(one, other)
    if not is_closing_of(joined, thing):
        return False
    rows, basis, _ = thing
    vectors = vectors_of(joined, rows)
    basis_of = {name: own for (name, _), own in zip(joined[0], basis)}
    return all([times_vector(vector, vectors[index])[0] == 0
                for _, kind, vector in joined[3] for index in basis_of[kind]])


def is_part(one, other, thing):
    """Whether thing is (name, rows, left, right) with a tree of which the forms tell unlike numbers."""
    demand_comparable(one, other)
    kinds = one[0]
    if not is_tuple(thing, 4, 4):
        return False
    name, rows, left, right = thing
    kind_with = {read: kind for read, kind, _ in one[3]}
    if not isinstance(name, str) or name not in kind_with or not is_rows(kinds, rows):
        return False
    if kind_of(makers_of(kinds), rows[-1][0]) != kind_with[name]:
        return False
    if not is_ratio(left) or not is_ratio(right) or left == right:
        return False
    return left == number_of(one, name, rows) and right == number_of(other, name, rows)


def same_log(one, other):
    """A log of steps that are let, which lead from one to other."""
    demand_comparable(one, other)
    _, _, _, part = joint_reached(one, other)
    if part is not None:
        raise NotSame(part)
    if one == other:
        return ()
    forms, steps = way_to_least(one)
    other_forms, other_steps = way_to_least(other)
    # Both ways end with the least form, if they do not meet ahead of it.
    meeting = [form for form in forms if form in other_forms][0]
    there = other_forms.index(meeting)
    back = [("back", form, step) for form, step in zip(other_forms[:there], other_steps)]
    return tuple(steps[:forms.index(meeting)] + back[::-1])
