"""Sums over all trees of a size, and forms that tell products."""

from math import lcm

from sameontrees.basics import is_below, product_of, ratio_of, scaled
from sameontrees.errors import BadLimit, BadName, HasNumbers, TooGreat, Unlike
from sameontrees.forms import MOST_TERMS, demand_form, is_form
from sameontrees.trees import demand_kind

MOST_SIZE = 60
BETWEEN_NAMES = "x"


def sums(form, name, most):
    """The sums of what the read with the name tells of all trees of a size, for sizes to most."""
    demand_form(form)
    kinds, dims, maps, reads = form
    read_with = {read[0]: read for read in reads}
    if not isinstance(name, str) or name not in read_with:
        raise BadName("this is no name of a read")
    _, kind, vector = read_with[name]
    _demand_limit(most)
    _demand_no_numbers(kinds, kind)
    weights, below = scaled(vector)
    totals = _totals_to(kinds, dims, maps, kind, most)
    return tuple([ratio_of(sum([weight * top for weight, top in zip(weights, tops)]), below * bottom)
                  for tops, bottom in totals])


def counts(form, kind, most):
    """How many trees of the kind there are of each size to most."""
    demand_form(form)
    kinds, _, _, _ = form
    demand_kind(kinds, kind)
    _demand_limit(most)
    _demand_no_numbers(kinds, kind)
    # The form with a coordinate that is 1 at each tree.
    maps = [[((0, (0,) * len(fields), (1, 1)),) for _, fields in makers] for _, makers in kinds]
    return tuple([top for (top,), _ in _totals_to(kinds, (1,) * len(kinds), maps, kind, most)])


def product_form(one, other):
    """The form whose reads tell the products of what those of one and other tell."""
    demand_form(one)
    demand_form(other)
    kinds, dims, maps, reads = one
    _, other_dims, other_maps, other_reads = other
    if kinds != other[0]:
        raise Unlike("the forms have not the same kinds")
    for name, _ in kinds:
        _demand_no_numbers(kinds, name)
    width_of = {name: dim for (name, _), dim in zip(kinds, other_dims)}
    products = []
    for (name, makers), own, others in zip(kinds, maps, other_maps):
        products.append(tuple([_terms_together(width_of, name, fields, terms, behind)
                               for (_, fields), terms, behind in zip(makers, own, others)]))
    told = (kinds, tuple([dim * factor for dim, factor in zip(dims, other_dims)]), tuple(products),
            _reads_together(reads, other_reads))
    if not is_form(told):
        raise TooGreat("the products are beyond the bounds of forms")
    return told


def _totals_to(kinds, dims, maps, kind, most):
    """For each size to most the sum of the vectors of all trees of the kind.

    Each is a pair of integers and the bottom by which they are the vector.
    """
    totals = Totals(kinds, dims, maps, _led_to_from(kinds, kind))
    found = []
    bottom = 1
    for _ in range(most + 1):
        found.append((totals.tops(kind), bottom))
        totals.grow()
        bottom *= totals.bottom
    return found


def _led_to_from(kinds, kind):
    """A list of the kinds that fields lead to from the kind, and of the kind itself."""
    makers = {name: own for name, own in kinds}
    found = [kind]
    done = 0
    while done < len(found):
        for _, fields in makers[found[done]]:
            found.extend([field for field in sorted(set(fields))
                          if field != "number" and field not in found])
        done += 1
    return found


def _demand_limit(most):
    """Raise BadLimit if most is no size to count to."""
    if not is_below(most, MOST_SIZE + 1):
        raise BadLimit("this is no size from 0 to 60")


def _demand_no_numbers(kinds, kind):
    """Raise HasNumbers if the kind, or one that fields lead to from it, has a number field."""
    named = _led_to_from(kinds, kind)
    if any(["number" in fields for name, makers in kinds if name in named for _, fields in makers]):
        raise HasNumbers("a tree of the kind may have an integer")


class Totals:
    """The sums of the vectors of all trees of a size, size by size.

    A total of trees with so many makers is kept as integers, which are by the bottom, taken as
    often as there are makers, too great. A product belongs to kinds and a coordinate of each: it
    is the sum, over all trees of these kinds with so many makers together, of the product of
    their coordinates.
    """

    def __init__(self, kinds, dims, maps, names):
        needed = [(name, makers, dim, own) for (name, makers), dim, own in zip(kinds, dims, maps)
                  if name in names]
        self.bottom = _bottom_of_all([terms for _, _, _, own in needed for terms in own])
        self.size = 0
        self.totals = {name: [[0] for _ in range(dim)] for name, _, dim, _ in needed}
        self.terms = {name: _scaled_by(self.bottom, makers, own) for name, makers, _, own in needed}
        self.products = {}
        for own in self.terms.values():
            for _, (fields, cols), _ in own:
                for at in range(len(fields) + 1):
                    self.products[(fields[at:], cols[at:])] = []

    def tops(self, kind):
        """The integers of the kind's total for the size that is reached."""
        return [own[self.size] for own in self.totals[kind]]

    def grow(self):
        """Go on to the next size."""
        for fields, cols in list(self.products):
            self.products[(fields, cols)].append(self._product(fields, cols))
        for kind, terms in self.terms.items():
            fresh = [0] * len(self.totals[kind])
            for row, key, top in terms:
                fresh[row] += top * self.products[key][self.size]
            for row, top in enumerate(fresh):
                self.totals[kind][row].append(top)
        self.size += 1

    def _product(self, fields, cols):
        """The product for the size that is reached."""
        if len(fields) == 0:
            return 1 if self.size == 0 else 0
        totals = self.totals[fields[0]][cols[0]]
        if len(fields) == 1:
            return totals[self.size]
        # No tree has the size 0, so the others have fewer makers than all together.
        others = self.products[(fields[1:], cols[1:])][:self.size]
        return sum([top * factor for top, factor in zip(totals[1:], others[::-1])])


def _bottom_of_all(maps):
    """The least integer that all bottoms of the terms of some makers divide."""
    bottom = 1
    for terms in maps:
        for _, _, (_, part) in terms:
            bottom = lcm(bottom, part)
    return bottom


def _scaled_by(bottom, makers, maps):
    """A list of (row, (fields, columns), integer) of all terms, which are by the bottom too great."""
    found = []
    for (_, fields), terms in zip(makers, maps):
        for row, cols, (top, part) in terms:
            found.append((row, (fields, cols), top * (bottom // part)))
    return found


def _terms_together(width_of, kind, fields, terms, others):
    """The terms that are products of one of the terms and one of the others."""
    if len(terms) * len(others) > MOST_TERMS:
        raise TooGreat("a maker has too many terms")
    products = []
    for row, cols, ratio in terms:
        for other_row, other_cols, other_ratio in others:
            together = tuple([col * width_of[field] + other_col
                              for field, col, other_col in zip(fields, cols, other_cols)])
            products.append((row * width_of[kind] + other_row, together,
                             product_of((ratio, other_ratio))))
    return tuple(sorted(products))


def _reads_together(reads, others):
    """The reads that tell products, however many and whatever their names."""
    return tuple([(name + BETWEEN_NAMES + other, kind,
                   tuple([product_of((entry, factor)) for entry in vector for factor in other_vector]))
                  for name, kind, vector in reads
                  for other, other_kind, other_vector in others if other_kind == kind])
