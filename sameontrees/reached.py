"""The basis trees of a form, and closings, which show that their vectors make those of all trees."""

from heapq import heappop, heappush

from sameontrees.basics import is_below, is_ratio, is_tuple, scaled
from sameontrees.errors import BadRows, TooGreat
from sameontrees.forms import demand_wide_form, vectors_of
from sameontrees.matrices import Span, without_divisor
from sameontrees.trees import is_rows, kind_of, makers_of, trees_among

MOST_MAKERS_OVER_BASIS = 20000
# A number field tells 1 and the integer; what 0 and 1 tell makes what all others do.
VECTORS_OF_NUMBERS = ((1, 0), (1, 1))


def reached(form):
    """The rows of the basis trees, and for each kind the indexes of its basis trees."""
    demand_wide_form(form)
    return reached_of(form)


def closing(form):
    """What reached tells, and how each maker over basis trees is made of basis trees."""
    demand_wide_form(form)
    rows, basis = reached_of(form)
    return (rows, basis, sums_over(form, rows, basis))


def is_closing(form, thing):
    """Whether thing is a closing of the form, with whatever basis trees."""
    demand_wide_form(form)
    return is_closing_of(form, thing)


def is_closing_of(form, thing):
    """What is_closing returns, of a form that is right."""
    if not is_tuple(thing, 3, 3):
        return False
    rows, basis, sums = thing
    kinds = form[0]
    if not is_rows_or_none(kinds, rows) or not _is_basis(kinds, rows, basis):
        return False
    return _are_sums(kinds, basis, sums) and sums == sums_over(form, rows, basis)


def reached_of(form):
    """What reached returns, of a form that is right."""
    growth = Growth(form)
    growth.begin()
    while growth.waits():
        growth.go_on()
    return (tuple(growth.rows), tuple([tuple(own) for own in growth.basis]))


def is_rows_or_none(kinds, thing):
    """Whether thing is rows or (), the rows of no trees."""
    return is_tuple(thing, 0, 0) or is_rows(kinds, thing)


def demand_rows_or_none(kinds, rows):
    """Raise BadRows if rows are neither rows of the kinds nor ()."""
    if not is_rows_or_none(kinds, rows):
        raise BadRows("these are no rows of the kinds")


def kinds_of_rows(kinds, rows):
    """A list of the kinds of the rows' trees."""
    makers = makers_of(kinds)
    return [kind_of(makers, maker) for maker, _ in rows]


def is_index(found, kind, thing):
    """Whether thing is the index of a row of the kind, found being the rows' kinds."""
    return is_below(thing, len(found)) and found[thing] == kind


def are_indexes(found, kind, thing):
    """Whether thing is a tuple of indexes of rows of the kind, found being the rows' kinds."""
    return isinstance(thing, tuple) and all([is_index(found, kind, index) for index in thing])


class Growth:
    """The basis trees of a form, as far as they are found in the sequence of trees.

    What may be a basis tree waits under its size. When those of a size are asked, all smaller
    basis trees are found, so all that stand ahead of each are known. Vectors are integers without
    a common divisor: of what a vector is made does not hang on its length.
    """

    def __init__(self, form):
        kinds, dims, maps, _ = form
        self.place_of = {name: place for place, (name, _) in enumerate(kinds)}
        self.makers = makers_of(kinds)
        self.terms = {maker: scaled_terms(terms)[0]
                      for (_, makers), own in zip(kinds, maps)
                      for (maker, _), terms in zip(makers, own)}
        self.spans = [Span(dim) for dim in dims]
        self.rows = []
        self.sizes = []
        self.vectors = []
        self.basis = [[] for _ in kinds]
        self.by_words = [[] for _ in kinds]
        self.waiting = {}
        self.sizes_waiting = []

    def begin(self):
        """Let the trees wait that have no part."""
        for maker, (_, _, fields) in self.makers.items():
            if all(field == "number" for field in fields):
                self._offer(maker, list(range(len(fields))), [_numbers() for _ in fields])

    def waits(self):
        """Whether some tree waits."""
        return len(self.sizes_waiting) > 0

    def go_on(self):
        """Ask the waiting trees of the least size."""
        size = heappop(self.sizes_waiting)
        batch = self.waiting.pop(size)
        known = len(self.rows)
        for kind, place in self.place_of.items():
            own = [(row, vector) for row, vector in batch if kind_of(self.makers, row[0]) == kind]
            for row, vector in sorted(own, key=lambda pair: self._place_in_words(pair[0])):
                if self.spans[place].put_scaled(vector, 1):
                    self._keep(place, row, size, vector)
        self._demand_few_makers()
        for index in range(known, len(self.rows)):
            self._offer_with(index)

    def _place_in_words(self, row):
        """What is compared of two trees of a kind for which of their words are first."""
        maker, entries = row
        _, at, fields = self.makers[maker]
        return (at, [entry if field == "number" else self.by_words[self.place_of[field]].index(entry)
                     for field, entry in zip(fields, entries)])

    def _keep(self, place, row, size, vector):
        """Keep the basis tree of the kind at the place."""
        key = self._place_in_words(row)
        index = len(self.rows)
        own = self.by_words[place]
        ahead = [other for other in own if self._place_in_words(self.rows[other]) < key]
        own.insert(len(ahead), index)
        self.rows.append(row)
        self.sizes.append(size)
        self.vectors.append(without_divisor(vector))
        self.basis[place].append(index)

    def _demand_few_makers(self):
        """Raise TooGreat if the makers over basis trees are too many."""
        many_of = many_in_basis(self.place_of, self.basis)
        if sum([many_choices(many_of, fields)
                for _, _, fields in self.makers.values()]) > MOST_MAKERS_OVER_BASIS:
            raise TooGreat("there are too many makers over basis trees")

    def _offer_with(self, index):
        """Let the trees wait that have the basis tree, and none behind it, as a part.

        It stands first at one of the fields, so that no tree waits twice.
        """
        own = kind_of(self.makers, self.rows[index][0])
        for maker, (_, _, fields) in self.makers.items():
            for place, field in enumerate(fields):
                if field == own:
                    choices = ([self._choices(other, index) for other in fields[:place]]
                               + [[(index, self.vectors[index])]]
                               + [self._choices(other, index + 1) for other in fields[place + 1:]])
                    others = [at for at in range(len(fields)) if at != place]
                    # The one choice goes first: it leaves fewer terms for all the others.
                    self._offer(maker, [place] + others, choices)

    def _choices(self, field, limit):
        """The choices for a field, of basis trees below the limit."""
        if field == "number":
            return _numbers()
        return [(index, self.vectors[index])
                for index in self.basis[self.place_of[field]] if index < limit]

    def _offer(self, maker, places, choices):
        """Let the trees wait that are the maker over the choices and that may be basis trees."""
        kind, _, fields = self.makers[maker]
        span = self.spans[self.place_of[kind]]
        if span.is_full():
            return
        for entries, vector in spread(span.width, self.terms[maker], places, choices):
            if not span.makes(vector):
                parts = trees_among(fields, entries)
                self._wait(1 + sum([self.sizes[part] for part in parts]), (maker, entries), vector)

    def _wait(self, size, row, vector):
        """Let the tree wait under its size."""
        if size not in self.waiting:
            self.waiting[size] = []
            heappush(self.sizes_waiting, size)
        self.waiting[size].append((row, vector))


def spread(dim, terms, places, choices):
    """A list of (entries, vector of integers) for all choices of an entry at each place.

    Terms are as scaled_terms tells them, and each choice is an entry with its vector of integers.
    """
    found = []
    _spread_into(found, dim, terms, places, choices, (0,) * len(choices))
    return found


def scaled_terms(terms):
    """A dict of integers by row and columns, and the bottom by which they are the terms."""
    tops, bottom = scaled([ratio for _, _, ratio in terms])
    return ({(row, cols): top for (row, cols, _), top in zip(terms, tops)}, bottom)


def many_in_basis(names, basis):
    """A dict with how many entries are chosen from for a field of each of the kinds' names."""
    many_of = {name: len(own) for name, own in zip(names, basis)}
    many_of["number"] = len(VECTORS_OF_NUMBERS)
    return many_of


def many_choices(many_of, fields):
    """How many choices of an entry for each field there are."""
    many = 1
    for field in fields:
        many *= many_of[field]
    return many


def _numbers():
    """The choices for a number field."""
    return list(enumerate(VECTORS_OF_NUMBERS))


def _spread_into(found, dim, terms, places, choices, entries):
    """Append to found what spread tells of the places that are left, behind these entries."""
    if len(places) == 0:
        unused = (0,) * len(entries)
        found.append((entries, [terms.get((row, unused), 0) for row in range(dim)]))
        return
    place = places[0]
    open_terms = [(cols[place], (row, cols[:place] + (0,) + cols[place + 1:]), weight)
                  for (row, cols), weight in terms.items()]
    for entry, vector in choices[place]:
        _spread_into(found, dim, _put_in(open_terms, vector), places[1:], choices,
                     entries[:place] + (entry,) + entries[place + 1:])


def _put_in(open_terms, vector):
    """The terms with the vector put in for the columns at the place where they are open."""
    terms = {}
    for col, key, weight in open_terms:
        factor = vector[col]
        if factor != 0:
            terms[key] = terms.get(key, 0) + weight * factor
    return terms


def _is_basis(kinds, rows, thing):
    """Whether thing has, for each kind, a tuple of indexes of rows of trees of the kind."""
    if not is_tuple(thing, len(kinds), len(kinds)):
        return False
    found = kinds_of_rows(kinds, rows)
    return all([are_indexes(found, name, own) for (name, _), own in zip(kinds, thing)])


def _are_sums(kinds, basis, thing):
    """Whether thing has as many weights, for as many choices, as a closing has over the basis."""
    if not is_tuple(thing, len(kinds), len(kinds)):
        return False
    many_of = many_in_basis([name for name, _ in kinds], basis)
    for (name, makers), of_kind in zip(kinds, thing):
        if not is_tuple(of_kind, len(makers), len(makers)):
            return False
        for (_, fields), sums in zip(makers, of_kind):
            many = many_choices(many_of, fields)
            if not is_tuple(sums, many, many):
                return False
            if not all([_is_weights(many_of[name], weights) for weights in sums]):
                return False
    return True


def _is_weights(many, thing):
    """Whether thing is a tuple of so many ratios."""
    return is_tuple(thing, many, many) and all(is_ratio(weight) for weight in thing)


def sums_over(form, rows, basis):
    """The sums of a closing over the basis, None if its trees do not make what they should."""
    kinds, dims, maps, _ = form
    told = [scaled(vector) for vector in vectors_of(form, rows)]
    trees = {name: [told[index] for index in own] for (name, _), own in zip(kinds, basis)}
    trees["number"] = [(vector, 1) for vector in VECTORS_OF_NUMBERS]
    sums = []
    for (name, makers), dim, own in zip(kinds, dims, maps):
        span = Span(dim)
        if not all([span.put_scaled(tops, bottom) for tops, bottom in trees[name]]):
            return None
        of_kind = [_sums_of_maker(span, trees, fields, terms)
                   for (_, fields), terms in zip(makers, own)]
        if None in of_kind:
            return None
        sums.append(tuple(of_kind))
    return tuple(sums)


def _sums_of_maker(span, trees, fields, terms):
    """The weights for each choice, None if the span does not make one of the vectors."""
    integers, below = scaled_terms(terms)
    choices = [[(place, tops) for place, (tops, _) in enumerate(trees[field])] for field in fields]
    sums = []
    for places, vector in spread(span.width, integers, list(range(len(fields))), choices):
        bottom = below
        for field, place in zip(fields, places):
            bottom *= trees[field][place][1]
        weights = span.weights_of_scaled(vector, bottom)
        if weights is None:
            return None
        sums.append(weights)
    return tuple(sums)
