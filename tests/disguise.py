"""Forms that tell what another form tells: in other coordinates, with more of them."""

from tests.reference import Fraction, as_fractions, product_with, ratio

ENTRIES = (0, 0, 1, 1, -1, 2, Fraction(1, 2))


def inverted(rows):
    """The inverse of a square matrix of fractions, None if there is none."""
    many = len(rows)
    work = [[*row, *[Fraction(at == place) for place in range(many)]] for at, row in enumerate(rows)]
    for column in range(many):
        pivots = [at for at in range(column, many) if work[at][column] != 0]
        if not pivots:
            return None
        work[column], work[pivots[0]] = work[pivots[0]], work[column]
        work[column] = [entry / work[column][column] for entry in work[column]]
        for at in range(many):
            if at != column:
                factor = work[at][column]
                work[at] = [entry - factor * other for entry, other in zip(work[at], work[column])]
    return [row[many:] for row in work]


def as_matrix(rows):
    """The matrix of ratios of rows of fractions."""
    return tuple(tuple(ratio(entry) for entry in row) for row in rows)


def random_base(chance, dim):
    """A pair (matrix, inverse) of matrices of fractions."""
    while True:
        rows = [[Fraction(chance.choice(ENTRIES)) for _ in range(dim)] for _ in range(dim)]
        inverse = inverted(rows)
        if inverse is not None:
            return rows, inverse


def easy_base(chance, dim):
    """As random_base, but with few entries, so that few terms come."""
    order = chance.sample(range(dim), dim)
    rows = [[Fraction(place == order[at]) for place in range(dim)] for at in range(dim)]
    if dim > 1:
        one, other = chance.sample(range(dim), 2)
        rows[one] = [entry + 2 * more for entry, more in zip(rows[one], rows[other])]
    return rows, inverted(rows)


def in_coordinates(form, bases):
    """The form with the vectors changed by a pair (matrix, inverse) for each kind, by the words."""
    kinds, dims, maps, reads = form
    base_of = dict(zip([kind for kind, _ in kinds], bases))
    told = []
    for (kind, makers), own in zip(kinds, maps):
        of_kind = []
        for (_, fields), terms in zip(makers, own):
            sums = {}
            for row, cols, (top, bottom) in terms:
                parts = {(): Fraction(top, bottom)}
                for field, col in zip(fields, cols):
                    line = {col: 1} if field == "number" else dict(enumerate(base_of[field][1][col]))
                    parts = {(*ahead, place): value * factor for ahead, value in parts.items()
                             for place, factor in line.items() if factor != 0}
                for fresh, line in enumerate(base_of[kind][0]):
                    for ahead, value in parts.items():
                        sums[(fresh, ahead)] = sums.get((fresh, ahead), 0) + value * line[row]
            of_kind.append(tuple((*place, ratio(value)) for place, value in sorted(sums.items())
                                 if value != 0))
        told.append(tuple(of_kind))
    heads = []
    for name, kind, vector in reads:
        columns = list(zip(*base_of[kind][1]))
        heads.append((name, kind, tuple(ratio(product_with(as_fractions(vector), column))
                                        for column in columns)))
    return (kinds, dims, tuple(told), tuple(heads))


def disguised(chance, form, base=random_base):
    """The form in other coordinates."""
    return in_coordinates(form, [base(chance, dim) for dim in form[1]])


def beside(one, other):
    """A form with the vectors of one and behind them those of other, and with one's reads."""
    kinds, dims, maps, reads = one
    shifts = dict(zip([kind for kind, _ in kinds], dims))
    mores = dict(zip([kind for kind, _ in kinds], other[1]))
    told = []
    for (kind, makers), own, more in zip(kinds, maps, other[2]):
        told.append(tuple(
            terms + tuple((row + shifts[kind],
                           tuple(col + shifts.get(field, 0) for field, col in zip(fields, cols)),
                           ratio) for row, cols, ratio in behind)
            for (_, fields), terms, behind in zip(makers, own, more)))
    return (kinds, tuple(dim + more for dim, more in zip(dims, other[1])), tuple(told),
            tuple((name, kind, vector + ((0, 1),) * mores[kind]) for name, kind, vector in reads))


def with_copies(form):
    """The form with each coordinate twice, each used half by the reads."""
    kinds, dims, maps, reads = beside(form, form)
    halves = tuple((name, kind, tuple(ratio(Fraction(*entry) / 2) for entry in vector) * 2)
                   for name, kind, vector in form[3])
    return (kinds, dims, maps, halves)


def with_zeros(form, dims):
    """The form with so many coordinates more of each kind that are 0 at each tree, but used."""
    kinds = form[0]
    nothing = (kinds, dims, tuple(((),) * len(makers) for _, makers in kinds), ())
    _, together, maps, reads = beside(form, nothing)
    ones = tuple((name, kind, vector[:len(vector) - more] + ((7, 1),) * more)
                 for name, kind, vector in reads
                 for more in [dims[[one for one, _ in kinds].index(kind)]])
    return (kinds, together, maps, ones)
