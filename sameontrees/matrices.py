"""Vectors and matrices of ratios, and what vectors make."""

from math import gcd, lcm

from sameontrees.basics import is_ratio, is_tuple, ratio_of, scaled, unit
from sameontrees.errors import BadMatrix, BadVector, Singular, Unlike

MOST_ENTRIES = 48


def made_of(rows, target):
    """("made", weights) by which the rows make the target, or ("apart", marks)."""
    demand_matrix(rows)
    if not is_vector(target):
        raise BadVector("this is no vector")
    if len(rows) > 0 and len(rows[0]) != len(target):
        raise Unlike("the target is not as long as the rows")
    span = Span(len(target))
    kept = [place for place, row in enumerate(rows) if span.put(row)]
    weights = span.weights(target)
    if weights is None:
        return ("apart", span.marks(target))
    weight_at = dict(zip(kept, weights))
    return ("made", tuple([weight_at.get(place, (0, 1)) for place in range(len(rows))]))


def rank(rows):
    """The greatest number of rows of which none is made of the others."""
    demand_matrix(rows)
    return rank_of(rows)


def inverse(rows):
    """The matrix whose product with the rows is 1 at equal places and 0 else."""
    demand_matrix(rows)
    if not is_square(rows):
        raise Unlike("the matrix has not as many rows as entries in each")
    found = inverse_of(rows)
    if found is None:
        raise Singular("the matrix has no inverse")
    return found


def times_matrix(one, other):
    """The product of two matrices."""
    demand_matrix(one)
    demand_matrix(other)
    if len(one) > 0 and len(one[0]) != len(other):
        raise Unlike("one's rows are not as long as other has rows")
    return product_of_matrices(one, other)


def is_vector(thing):
    """Whether thing is a vector."""
    return is_tuple(thing, 0, MOST_ENTRIES) and all(is_ratio(entry) for entry in thing)


def is_matrix(thing):
    """Whether thing is a matrix."""
    if not is_tuple(thing, 0, MOST_ENTRIES) or not all(is_vector(row) for row in thing):
        return False
    return len({len(row) for row in thing}) <= 1


def is_square(rows):
    """Whether the matrix has as many rows as entries in each."""
    return len(rows) == 0 or len(rows[0]) == len(rows)


def is_square_of(thing, dim):
    """Whether thing is a matrix with so many rows and as many entries in each."""
    return is_matrix(thing) and len(thing) == dim and is_square(thing)


def demand_matrix(rows):
    """Raise BadMatrix if rows are none."""
    if not is_matrix(rows):
        raise BadMatrix("this is no matrix")


def inverse_of(rows):
    """The inverse of a square matrix, None if there is none."""
    span = Span(len(rows))
    if not all([span.put(row) for row in rows]):
        return None
    return span.inverse_of_all()


def product_of_matrices(one, other):
    """The product of two matrices that fit each other."""
    rows = [scaled(row) for row in one]
    columns = [scaled(column) for column in zip(*other)]
    return tuple([tuple([_product_of_scaled(row, column) for column in columns]) for row in rows])


def transposed(rows, width):
    """The matrix whose rows are the columns of this one, which are as many as the width."""
    return tuple([tuple([row[at] for row in rows]) for at in range(width)])


def identity(dim):
    """The matrix that changes no vector of the dim."""
    return tuple([unit(dim, place) for place in range(dim)])


def are_inverse(one, other):
    """Whether the product of two square matrices with equally many rows is the identity."""
    return product_of_matrices(one, other) == identity(len(one))


def rank_of(rows):
    """The rank of vectors of one length, however many and long."""
    span = Span(len(rows[0]) if len(rows) > 0 else 0)
    return len([row for row in rows if span.put(row)])


def _product_of_scaled(one, other):
    """The sum of the products, entry by entry, of two vectors that are scaled to integers."""
    tops, bottom = one
    others, below = other
    return ratio_of(sum([top * factor for top, factor in zip(tops, others)]), bottom * below)


class Span:
    """What vectors of one length make, of which none is made of those put in ahead of it.

    The vectors are kept as integers, each over its bottom, and rows of integers stand for them.
    The first entries of a row, as many as the width, are a sum of the vectors that is 0 at the
    pivots of all other rows, but not at its own. The entries behind are the weights of this sum.
    A row has no common divisor, so its integers are as short as what it stands for lets them be.
    """

    def __init__(self, width):
        self.width = width
        self.pivots = []
        self.rows = []
        self.bottoms = []

    def is_full(self):
        """Whether each vector of the width is made."""
        return len(self.pivots) == self.width

    def put(self, vector):
        """Put in a vector of ratios; False, and nothing is put in, if it is made."""
        tops, bottom = scaled(vector)
        return self.put_scaled(tops, bottom)

    def put_scaled(self, tops, bottom):
        """Put in a vector of integers over the bottom; False, and nothing is put in, if made."""
        if self.is_full():
            return False
        total, rest = self._rest(tops + [0] * len(self.rows))
        pivot = self._first_place(rest)
        if pivot is None:
            return False
        fresh = without_divisor(rest + [total])
        self.rows = [_without_pivot(row + [0], fresh, pivot) for row in self.rows] + [fresh]
        self.pivots.append(pivot)
        self.bottoms.append(bottom)
        return True

    def makes(self, tops):
        """Whether the vector of integers is made."""
        if self.is_full():
            return True
        _, rest = self._rest(tops)
        return not any(rest)

    def weights(self, vector):
        """The weights by which the vectors make a vector of ratios, None if they do not."""
        tops, bottom = scaled(vector)
        return self.weights_of_scaled(tops, bottom)

    def weights_of_scaled(self, tops, bottom):
        """The weights that make a vector of integers over the bottom, None if there are none."""
        total, rest = self._rest(tops + [0] * len(self.rows))
        if self._first_place(rest) is not None:
            return None
        return tuple([ratio_of(-entry * below, total * bottom)
                      for entry, below in zip(rest[self.width:], self.bottoms)])

    def marks(self, vector):
        """A vector whose product with those put in is 0, and with this one, not made, is 1."""
        tops, bottom = scaled(vector)
        total, rest = self._rest(tops)
        place = self._first_place(rest)
        marks = [(0, 1)] * self.width
        marks[place] = ratio_of(bottom * total, rest[place])
        for pivot, row in zip(self.pivots, self.rows):
            marks[pivot] = ratio_of(-row[place] * bottom * total, row[pivot] * rest[place])
        return tuple(marks)

    def inverse_of_all(self):
        """The inverse of the matrix of the vectors, which are as many as their width."""
        row_at = dict(zip(self.pivots, self.rows))
        return tuple([tuple([ratio_of(weight * below, row_at[place][place])
                             for weight, below in zip(row_at[place][self.width:], self.bottoms)])
                      for place in range(self.width)])

    def reduced(self):
        """The matrix of the rows, each 1 at its own pivot, ascending by pivots."""
        row_at = dict(zip(self.pivots, self.rows))
        return tuple([tuple([ratio_of(entry, row_at[pivot][pivot])
                             for entry in row_at[pivot][:self.width]])
                      for pivot in sorted(self.pivots)])

    def _rest(self, tops):
        """A total, and the total times the vector less the sum of rows that leaves 0 at all pivots.

        The vector may have more entries than the width, as the rows have.
        """
        used = [(pivot, row) for pivot, row in zip(self.pivots, self.rows) if tops[pivot] != 0]
        total = 1
        for pivot, row in used:
            total = lcm(total, row[pivot])
        rest = [total * top for top in tops]
        for pivot, row in used:
            weight = tops[pivot] * (total // row[pivot])
            rest = [entry - weight * other for entry, other in zip(rest, row)]
        return (total, rest)

    def _first_place(self, entries):
        """The first place within the width whose entry is not 0, None if there is none."""
        for place in range(self.width):
            if entries[place] != 0:
                return place
        return None


def without_divisor(entries):
    """The integers, of which one is not 0, divided by their greatest common divisor."""
    shared = 0
    for entry in entries:
        shared = gcd(shared, entry)
        if shared == 1:
            return entries
    return [entry // shared for entry in entries]


def _without_pivot(row, fresh, pivot):
    """The row, made 0 at the pivot by the fresh row, which is not 0 there."""
    if row[pivot] == 0:
        return row
    times, less = without_divisor([fresh[pivot], row[pivot]])
    return without_divisor([times * entry - less * other for entry, other in zip(row, fresh)])
