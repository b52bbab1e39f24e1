"""Forms: judged, what they tell of trees, and the way from programs to them and back."""

from math import lcm

from sameontrees.basics import (is_below, is_low, is_ratio, is_tuple, product_of, ratio_of, sum_of,
                                summed, times_vector, unit)
from sameontrees.checks import checked
from sameontrees.errors import BadForm, BadName, BadRows, TooGreat
from sameontrees.programs import MOST_FUNCTIONS, MOST_PARTS, is_program
from sameontrees.trees import demand_rows, is_kinds, kind_of, makers_of

MOST_DIM = 16
MOST_DIMS = 32
MOST_TERMS = 4000
MOST_DIM_OF_WIDE = 32
MOST_DIMS_OF_WIDE = 64
MOST_TERMS_OF_WIDE = 8000
# As many as a maker may have fields.
NAMES_OF_FIELDS = ("a", "b", "c", "d")


def is_form(thing):
    """Whether thing is a form."""
    return _is_form_within(thing, (MOST_DIM, MOST_DIMS, MOST_TERMS))


def vectors(form, rows):
    """The vectors of the rows' trees."""
    demand_wide_form(form)
    demand_rows(form[0], rows)
    return vectors_of(form, rows)


def number(form, name, rows):
    """The ratio that the read with the name tells of the rows' tree."""
    demand_form(form)
    return number_of(form, name, rows)


def formed(program):
    """The form of a checked program."""
    checked(program)
    kinds, functions = program
    dims = tuple([1 + len(_functions_of(functions, name)) for name, _ in kinds])
    if max(dims) > MOST_DIM or sum(dims) > MOST_DIMS:
        raise TooGreat("there are too many functions for the coordinates of a form")
    coordinates = {name: 1 + place for kind, _ in kinds
                   for place, name in enumerate(_functions_of(functions, kind))}
    cases = {(function, maker): (names, e)
             for function, _, own in functions for maker, names, e in own}
    maps = [tuple([_terms_of_maker(coordinates, cases, _functions_of(functions, kind), maker)
                   for maker in makers])
            for kind, makers in kinds]
    dim_of = dim_of_kinds(kinds, dims)
    reads = [(name, kind, unit(dim_of[kind], coordinates[name])) for name, kind, _ in functions]
    return (kinds, dims, tuple(maps), tuple(reads))


def program_of(form):
    """A checked program whose first functions tell what the form's reads do."""
    demand_form(form)
    kinds, dims, maps, reads = form
    names = _free_names([name for name, _, _ in reads], sum(dims))
    coordinates = {}
    for (kind, _), dim in zip(kinds, dims):
        coordinates[kind] = names[:dim]
        names = names[dim:]
    rows = [(coordinates[kind][place], kind, unit(dim, place))
            for (kind, _), dim in zip(kinds, dims) for place in range(dim)]
    makers = {kind: list(zip(own, terms)) for (kind, own), terms in zip(kinds, maps)}
    functions = [(name, kind, tuple([_case(coordinates, vector, maker, terms)
                                     for maker, terms in makers[kind]]))
                 for name, kind, vector in list(reads) + rows]
    program = (kinds, tuple(functions))
    if not is_program(program):
        raise TooGreat("the program is beyond the bounds of programs")
    return program


def is_wide_form(thing):
    """Whether thing is a form or a wide form."""
    return _is_form_within(thing, (MOST_DIM_OF_WIDE, MOST_DIMS_OF_WIDE, MOST_TERMS_OF_WIDE))


def demand_form(form):
    """Raise BadForm if form is none."""
    if not is_form(form):
        raise BadForm("this is no form")


def demand_wide_form(form):
    """Raise BadForm if form is neither a form nor a wide form."""
    if not is_wide_form(form):
        raise BadForm("this is no form")


def dim_of_kinds(kinds, dims):
    """A dict with the dim of each kind, and 2 for a number field, which has coordinates, too."""
    dim_of = {name: dim for (name, _), dim in zip(kinds, dims)}
    dim_of["number"] = 2
    return dim_of


def number_of(form, name, rows):
    """What number returns, of a form that is right."""
    kinds, _, _, reads = form
    read_with = {read[0]: read for read in reads}
    if not isinstance(name, str) or name not in read_with:
        raise BadName("this is no name of a read")
    _, kind, vector = read_with[name]
    demand_rows(kinds, rows)
    if kind_of(makers_of(kinds), rows[-1][0]) != kind:
        raise BadRows("the tree is not of the read's kind")
    return times_vector(vector, vectors_of(form, rows)[-1])


def maps_by_maker(form):
    """A dict with, for each maker's name, its kind's dim, its fields and its terms."""
    kinds, dims, maps, _ = form
    return {maker: (dim, fields, terms)
            for (_, makers), dim, own in zip(kinds, dims, maps)
            for (maker, fields), terms in zip(makers, own)}


def vectors_of(form, rows):
    """The vectors of the trees of rows, which are right or none."""
    maps = maps_by_maker(form)
    found = []
    for maker, entries in rows:
        dim, fields, terms = maps[maker]
        found.append(vector_of_maker(dim, terms, parts_of_entries(found, fields, entries)))
    return tuple(found)


def parts_of_entries(vectors_of_rows, fields, entries):
    """The vectors of what stands at the fields: integers, or trees of rows of these vectors."""
    return [((1, 1), (entry, 1)) if field == "number" else vectors_of_rows[entry]
            for field, entry in zip(fields, entries)]


def vector_of_maker(dim, terms, parts):
    """The vector that the terms of a maker make of the vectors of its fields."""
    ratios = [[] for _ in range(dim)]
    for row, cols, ratio in terms:
        factors = [part[col] for part, col in zip(parts, cols)]
        if all(top != 0 for top, _ in factors):
            ratios[row].append(product_of(factors + [ratio]))
    return tuple([sum_of(own) for own in ratios])


def _is_form_within(thing, bounds):
    """Whether thing is as a form, within bounds for a dim, all dims, and the terms of a maker."""
    if not is_tuple(thing, 4, 4):
        return False
    kinds, dims, maps, reads = thing
    most, most_together, most_terms = bounds
    if not is_kinds(kinds) or not is_tuple(dims, len(kinds), len(kinds)):
        return False
    if not all(is_below(dim, most + 1) for dim in dims) or sum(dims) > most_together:
        return False
    dim_of = dim_of_kinds(kinds, dims)
    return (is_tuple(maps, len(kinds), len(kinds))
            and all(_are_maps(dim_of, kind, most_terms, own) for kind, own in zip(kinds, maps))
            and _are_reads(dim_of, reads))


def _are_maps(dim_of, kind, most_terms, thing):
    """Whether thing has terms for each maker of the kind."""
    name, makers = kind
    if not is_tuple(thing, len(makers), len(makers)):
        return False
    return all([is_tuple(terms, 0, most_terms)
                and _are_terms(dim_of[name], [dim_of[field] for field in fields], terms)
                for (_, fields), terms in zip(makers, thing)])


def _are_terms(dim, widths, terms):
    """Whether the terms are a maker's."""
    if not all(_is_term(dim, widths, term) for term in terms):
        return False
    places = [(row, cols) for row, cols, _ in terms]
    return all(one < other for one, other in zip(places, places[1:]))


def _is_term(dim, widths, thing):
    """Whether thing is a term, its row below the dim and its columns below the widths."""
    if not is_tuple(thing, 3, 3):
        return False
    row, cols, ratio = thing
    return (is_below(row, dim) and is_tuple(cols, len(widths), len(widths))
            and all(is_below(col, width) for col, width in zip(cols, widths))
            and is_ratio(ratio) and ratio[0] != 0)


def _are_reads(dim_of, thing):
    """Whether thing is reads."""
    if not is_tuple(thing, 0, MOST_FUNCTIONS) or not all(_is_read(dim_of, read) for read in thing):
        return False
    return len({name for name, _, _ in thing}) == len(thing)


def _is_read(dim_of, thing):
    """Whether thing is a read."""
    if not is_tuple(thing, 3, 3):
        return False
    name, kind, vector = thing
    if not is_low(name) or not isinstance(kind, str) or kind not in dim_of or kind == "number":
        return False
    return is_tuple(vector, dim_of[kind], dim_of[kind]) and all(is_ratio(entry) for entry in vector)


def _functions_of(functions, kind):
    """The names of the kind's functions."""
    return [name for name, own, _ in functions if own == kind]


def _terms_of_maker(coordinates, cases, functions, maker):
    """The terms of the maker (name, fields), where these functions have cases for it."""
    word, fields = maker
    terms = [(0, (0,) * len(fields), (1, 1))]
    for name in functions:
        names, e = cases[(name, word)]
        tops, bottom = _multiplied_out(coordinates, names, e)
        terms.extend([(coordinates[name], cols, ratio_of(tops[cols], bottom))
                      for cols in sorted(tops)])
        if len(terms) > MOST_TERMS:
            raise TooGreat("a maker has too many terms")
    return tuple(terms)


def _multiplied_out(coordinates, names, e):
    """A dict of integers, none of them 0, by the columns of the products of e, and their bottom.

    Equal columns are summed as soon as they come, so that there are never more of them than
    there are columns, however many products e has.
    """
    if e[0] == "num":
        top, bottom = e[1]
        return (_without_0({_using(names, None, 0): top}), bottom)
    if e[0] == "field":
        return ({_using(names, e[1], 1): 1}, 1)
    if e[0] == "call":
        return ({_using(names, e[2], coordinates[e[1]]): 1}, 1)
    parts = [_multiplied_out(coordinates, names, part) for part in e[1]]
    return _sum_of_products(parts) if e[0] == "sum" else _product_of_products(parts)


def _using(names, used, coordinate):
    """The columns that use the field with the name at the coordinate, and no other field."""
    return tuple([coordinate if name == used else 0 for name in names])


def _without_0(tops):
    """The dict of integers without those that are 0."""
    return {cols: top for cols, top in tops.items() if top != 0}


def _sum_of_products(parts):
    """The sum of what _multiplied_out told of the parts."""
    bottom = 1
    for _, below in parts:
        bottom = lcm(bottom, below)
    sums = {}
    for tops, below in parts:
        for cols, top in tops.items():
            sums[cols] = sums.get(cols, 0) + top * (bottom // below)
    return (_without_0(sums), bottom)


def _product_of_products(parts):
    """The product of what _multiplied_out told of the parts, which use unlike fields."""
    products, bottom = parts[0]
    for tops, below in parts[1:]:
        # As fields are unlike, no two products have equal columns, and none comes to be 0.
        products = {tuple([one + other for one, other in zip(cols, more)]): top * factor
                    for cols, top in products.items() for more, factor in tops.items()}
        bottom *= below
    return (products, bottom)


def _free_names(taken, many):
    """So many names for functions that are not taken."""
    names = []
    place = 0
    while len(names) < many:
        name = f"f{place}"
        if name not in taken:
            names.append(name)
        place += 1
    return names


def _case(coordinates, vector, maker, terms):
    """The case of a function that tells the product of vector and tree's vector."""
    name, fields = maker
    products = summed([(cols, product_of((vector[row], ratio)))
                       for row, cols, ratio in terms if vector[row][0] != 0])
    parts = [_product(coordinates, fields, cols, products[cols]) for cols in sorted(products)]
    return (name, NAMES_OF_FIELDS[:len(fields)], _sum(parts))


def _product(coordinates, fields, cols, ratio):
    """The expression of the ratio times what the columns of the fields tell."""
    parts = [] if ratio == (1, 1) else [("num", ratio)]
    for name, field, col in zip(NAMES_OF_FIELDS, fields, cols):
        if field != "number":
            parts.append(("call", coordinates[field][col], name))
        elif col == 1:
            parts.append(("field", name))
    if len(parts) == 0:
        return ("num", ratio)
    return parts[0] if len(parts) == 1 else ("product", tuple(parts))


def _sum(parts):
    """The expression of the sum of the parts, in sums of sums where they are too many for one."""
    if len(parts) == 0:
        return ("num", (0, 1))
    if len(parts) == 1:
        return parts[0]
    if len(parts) <= MOST_PARTS:
        return ("sum", tuple(parts))
    groups = [parts[at:at + MOST_PARTS] for at in range(0, len(parts), MOST_PARTS)]
    return ("sum", tuple([_sum(group) for group in groups]))
