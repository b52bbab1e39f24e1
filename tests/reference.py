"""A slow second way to what the package tells, by fractions and by going through all trees."""

import fractions
import itertools

Fraction = fractions.Fraction


def ratio(value):
    """The ratio of a fraction."""
    value = Fraction(value)
    return (value.numerator, value.denominator)


def as_fractions(vector):
    """The fractions of a vector of ratios."""
    return [Fraction(*entry) for entry in vector]


def makers_in(kinds):
    """A dict: for each maker the places of its kind and itself, and its fields."""
    return {maker: (at, place, fields) for at, (_, makers) in enumerate(kinds)
            for place, (maker, fields) in enumerate(makers)}


def parsed(kinds, words):
    """The nested tree (maker, entries) of words."""
    makers = makers_in(kinds)
    met = []
    for word in reversed(words):
        if isinstance(word, str):
            word = (word, tuple(met.pop() for _ in makers[word][2]))
        met.append(word)
    return met.pop()


def words_of_nested(tree):
    """The words of a nested tree."""
    maker, entries = tree
    words = [maker]
    for entry in entries:
        words.extend(words_of_nested(entry) if isinstance(entry, tuple) else [entry])
    return tuple(words)


def vector_of_nested(form, tree):
    """The vector of a nested tree, as fractions, by the words of the document."""
    maker, entries = tree
    at, place, fields = makers_in(form[0])[maker]
    parts = [[Fraction(1), Fraction(entry)] if field == "number" else vector_of_nested(form, entry)
             for field, entry in zip(fields, entries)]
    return put_in(form, at, place, parts)


def put_in(form, at, place, parts):
    """The vector of the maker at the place of the kind over vectors of its fields."""
    vector = [Fraction(0)] * form[1][at]
    for row, cols, (top, bottom) in form[2][at][place]:
        value = Fraction(top, bottom)
        for part, col in zip(parts, cols):
            value *= part[col]
        vector[row] += value
    return vector


def number_of_nested(form, name, tree):
    """The fraction that a read tells of a nested tree."""
    [vector] = [vector for read, _, vector in form[3] if read == name]
    told = vector_of_nested(form, tree)
    return sum((one * other for one, other in zip(as_fractions(vector), told)), Fraction(0))


def told_of_nested(program, name, tree):
    """The fraction that a function of a program tells of a nested tree."""
    _, functions = program
    maker, entries = tree
    [cases] = [cases for function, _, cases in functions if function == name]
    [(names, e)] = [(names, e) for word, names, e in cases if word == maker]
    return worked_out(program, dict(zip(names, entries)), e)


def worked_out(program, entries, e):
    """The fraction that an expression is."""
    if e[0] == "num":
        return Fraction(*e[1])
    if e[0] == "field":
        return Fraction(entries[e[1]])
    if e[0] == "call":
        return told_of_nested(program, e[1], entries[e[2]])
    value = Fraction(0 if e[0] == "sum" else 1)
    for part in e[1]:
        told = worked_out(program, entries, part)
        value = value + told if e[0] == "sum" else value * told
    return value


def trees_of_size(kinds, kind, size, integers):
    """All nested trees of the kind and size with these integers at number fields."""
    found = []
    for maker, fields in dict(kinds)[kind]:
        inner = [place for place, field in enumerate(fields) if field != "number"]
        for shares in itertools.product(range(1, size), repeat=len(inner)):
            if sum(shares) == size - 1:
                choices = [integers] * len(fields)
                for place, share in zip(inner, shares):
                    choices[place] = trees_of_size(kinds, fields[place], share, integers)
                found.extend((maker, entries) for entries in itertools.product(*choices))
    return found


def place_of_words(kinds, tree):
    """What is compared of two trees of a kind and size for the sequence."""
    makers = makers_in(kinds)
    return [makers[word][1] if isinstance(word, str) else 2 * word - 1 if word > 0 else -2 * word
            for word in words_of_nested(tree)]


def weights_of(vectors, target):
    """Fractions by which the vectors make the target; None if not, or if one is made of others."""
    width = len(target)
    rows = [[vector[at] for vector in vectors] + [target[at]] for at in range(width)]
    done = 0
    for column in range(len(vectors)):
        pivots = [row for row in rows[done:] if row[column] != 0]
        if not pivots:
            return None
        pivot = pivots[0]
        rows.remove(pivot)
        pivot = [entry / pivot[column] for entry in pivot]
        rows = [[entry - row[column] * other for entry, other in zip(row, pivot)] for row in rows]
        rows.insert(done, pivot)
        done += 1
    if any(row[-1] != 0 for row in rows[done:]):
        return None
    return [row[-1] for row in rows[:done]]


def basis_trees(form, most, integers):
    """For each kind its basis trees to the size, found by asking all trees in sequence."""
    kinds = form[0]
    found = []
    for kind, _ in kinds:
        trees, vectors = [], []
        for size in range(1, most + 1):
            of_size = trees_of_size(kinds, kind, size, integers)
            for tree in sorted(of_size, key=lambda one: place_of_words(kinds, one)):
                vector = vector_of_nested(form, tree)
                if weights_of(vectors, vector) is None:
                    trees.append(tree)
                    vectors.append(vector)
        found.append(trees)
    return found


def random_kinds(chance, most_kinds=3, most_fields=3, fields_more=("number",)):
    """Kinds, of most of which there are trees."""
    names = ["T", "U", "V"][:chance.randint(1, most_kinds)]
    fields = [*names, *fields_more]
    kinds = []
    for name in names:
        makers = []
        for place in range(chance.randint(1, 4)):
            many = chance.choice((0, 0, 1, 2, 2, most_fields))
            makers.append((f"{name}{place}", tuple(chance.choice(fields) for _ in range(many))))
        kinds.append((name, tuple(makers)))
    return tuple(kinds)


RATIOS = ((1, 1), (1, 1), (-1, 1), (2, 1), (1, 2), (-2, 3))


def random_form(chance, kinds, most_dim=3, share=0.3):
    """A form of the kinds, with so great a share of all terms that may be."""
    dims = tuple(chance.randint(0, most_dim) for _ in kinds)
    widths = {name: dim for (name, _), dim in zip(kinds, dims)}
    widths["number"] = 2
    maps = []
    for (name, makers) in kinds:
        own = []
        for _, fields in makers:
            places = itertools.product(range(widths[name]), itertools.product(
                *[range(widths[field]) for field in fields]))
            own.append(tuple((row, cols, chance.choice(RATIOS)) for row, cols in places
                             if chance.random() < share or not fields))
        maps.append(tuple(own))
    reads = tuple((f"r{at}", name, tuple(chance.choice(((0, 1), *RATIOS)) for _ in range(dim)))
                  for at, ((name, _), dim) in enumerate(zip(kinds, dims)) if chance.random() < 0.8)
    return (kinds, dims, tuple(maps), reads)


def random_program(chance, kinds, most_functions=3, depth=3):
    """A checked program over the kinds."""
    heads = [(f"f{at}", chance.choice(kinds)[0]) for at in range(chance.randint(0, most_functions))]
    functions = []
    for name, kind in heads:
        cases = []
        for maker, fields in dict(kinds)[kind]:
            names = ("p", "q", "r", "s")[:len(fields)]
            cases.append((maker, names, random_expression(chance, heads, dict(zip(names, fields)),
                                                          depth)))
        functions.append((name, kind, tuple(cases)))
    return (kinds, tuple(functions))


def random_expression(chance, heads, fields, depth):
    """An expression that uses these fields at most, each once in a product."""
    uses = [("num", chance.choice(((0, 1), *RATIOS)))]
    uses += [("field", name) for name, field in fields.items() if field == "number"]
    uses += [("call", function, name) for name, field in fields.items()
             for function, kind in heads if kind == field]
    if depth == 0 or chance.random() < 0.2:
        return chance.choice(uses)
    many = chance.randint(2, 3)
    if chance.random() < 0.5:
        return ("sum", tuple(random_expression(chance, heads, fields, depth - 1)
                             for _ in range(many)))
    shares = [{} for _ in range(many)]
    for name, field in fields.items():
        chance.choice(shares)[name] = field
    return ("product", tuple(random_expression(chance, heads, share, depth - 1)
                             for share in shares))


def vectors_of_rows(form, rows):
    """The vectors of rows as fractions."""
    makers = makers_in(form[0])
    found = []
    for maker, entries in rows:
        at, place, fields = makers[maker]
        parts = [[Fraction(1), Fraction(entry)] if field == "number" else found[entry]
                 for field, entry in zip(fields, entries)]
        found.append(put_in(form, at, place, parts))
    return found


def sums_over(form, rows, basis):
    """The sums of a closing over the basis, None if there are none."""
    told = vectors_of_rows(form, rows)
    trees = {name: [told[at] for at in own] for (name, _), own in zip(form[0], basis)}
    trees["number"] = [[Fraction(1), Fraction(0)], [Fraction(1), Fraction(1)]]
    sums = []
    for at, (name, makers) in enumerate(form[0]):
        of_kind = []
        for place, (_, fields) in enumerate(makers):
            weights = [weights_of(trees[name], put_in(form, at, place, parts))
                       for parts in itertools.product(*[trees[field] for field in fields])]
            if None in weights:
                return None
            of_kind.append(tuple(tuple(map(ratio, one)) for one in weights))
        sums.append(tuple(of_kind))
    return tuple(sums)


def nested_rows(kinds, rows):
    """The nested trees of rows."""
    makers = makers_in(kinds)
    found = []
    for maker, entries in rows:
        fields = makers[maker][2]
        found.append((maker, tuple(entry if field == "number" else found[entry]
                                   for field, entry in zip(fields, entries))))
    return found


def rows_of_nested(kinds, tree):
    """Rows of a nested tree, each part once."""
    found = {}

    def put(part):
        maker, entries = part
        row = (maker, tuple(put(entry) if isinstance(entry, tuple) else entry for entry in entries))
        return found.setdefault(row, len(found))

    put(tree)
    return tuple(found)


def plugged(kinds, rows, context, tree):
    """The nested tree that has the nested tree in the hole of the context over rows."""
    trees = nested_rows(kinds, rows)
    makers = makers_in(kinds)
    for maker, place, entries in reversed(context[1]):
        fields = makers[maker][2]
        others = fields[:place] + fields[place + 1:]
        parts = [entry if field == "number" else trees[entry]
                 for field, entry in zip(others, entries)]
        tree = (maker, (*parts[:place], tree, *parts[place:]))
    return tree


def number_in_context(form, rows, context, tree):
    """The fraction that the context over rows tells of the nested tree, put in its hole."""
    return number_of_nested(form, form[3][context[0]][0], plugged(form[0], rows, context, tree))


def all_trees(kinds, most, integers):
    """A dict: for each kind its nested trees to the size, in sequence."""
    found = {}
    for kind, _ in kinds:
        found[kind] = []
        for size in range(1, most + 1):
            of_size = trees_of_size(kinds, kind, size, integers)
            found[kind].extend(sorted(of_size, key=lambda one: place_of_words(kinds, one)))
    return found


def independent(vectors):
    """Those of the vectors that are not made of those ahead of them."""
    kept = []
    for vector in vectors:
        if weights_of(kept, vector) is None:
            kept.append(vector)
    return kept


def behind_step(form, at, place, hole, covector, parts):
    """The covector behind a step, with vectors for the other fields, as fractions."""
    name = form[0][at][1][place][1][hole]
    dim = dict(zip([kind for kind, _ in form[0]], form[1]))[name]
    told = [Fraction(0)] * dim
    for row, cols, (top, bottom) in form[2][at][place]:
        value = Fraction(top, bottom) * covector[row]
        for part, col in zip(parts, cols[:hole] + cols[hole + 1:]):
            value *= part[col]
        told[cols[hole]] += value
    return told


def seen_covectors(form, most, integers):
    """For each kind covectors that make those of all contexts over trees to the size."""
    kinds = form[0]
    names = [kind for kind, _ in kinds]
    vectors = {kind: independent([vector_of_nested(form, tree) for tree in trees])
               for kind, trees in all_trees(kinds, most, integers).items()}
    vectors["number"] = [[Fraction(1), Fraction(one)] for one in integers]
    found = {kind: [] for kind in names}
    waiting = [(kind, as_fractions(vector)) for _, kind, vector in form[3]]
    while waiting:
        kind, covector = waiting.pop(0)
        if weights_of(found[kind], covector) is not None:
            continue
        found[kind].append(covector)
        at = names.index(kind)
        for place, (_, fields) in enumerate(kinds[at][1]):
            for hole, field in enumerate(fields):
                others = fields[:hole] + fields[hole + 1:]
                if field != "number":
                    waiting.extend((field, behind_step(form, at, place, hole, covector, parts))
                                   for parts in itertools.product(*[vectors[one] for one in others]))
    return [found[kind] for kind in names]


def product_with(one, other):
    """The sum of the products, entry by entry."""
    return sum((left * right for left, right in zip(one, other)), Fraction(0))


def state_trees(form, most, integers):
    """For each kind its state trees to the size, found by asking all trees in sequence."""
    trees = all_trees(form[0], most, integers)
    found = []
    for (kind, _), covectors in zip(form[0], seen_covectors(form, most, integers)):
        kept, told = [], []
        for tree in trees[kind]:
            vector = vector_of_nested(form, tree)
            marks = [product_with(covector, vector) for covector in covectors]
            if weights_of(told, marks) is None:
                kept.append(tree)
                told.append(marks)
        found.append(kept)
    return found


def least_by_trees(form, most, integers):
    """The least form, found by asking all trees to the size in sequence."""
    kinds, _, _, reads = form
    covectors = dict(zip([kind for kind, _ in kinds], seen_covectors(form, most, integers)))
    trees = dict(zip([kind for kind, _ in kinds], state_trees(form, most, integers)))

    def marks(kind, vector):
        return [product_with(covector, vector) for covector in covectors[kind]]

    table = {kind: [marks(kind, vector_of_nested(form, tree)) for tree in own]
             for kind, own in trees.items()}
    parts = {kind: [vector_of_nested(form, tree) for tree in own] for kind, own in trees.items()}
    # At the column 1 of a number field what 1 makes less what 0 makes.
    parts["number"] = [[Fraction(1), Fraction(0)], [Fraction(0), Fraction(1)]]
    maps = []
    for at, (kind, makers) in enumerate(kinds):
        own = []
        for place, (_, fields) in enumerate(makers):
            terms = []
            for cols in itertools.product(*[range(len(parts[field])) for field in fields]):
                vector = put_in(form, at, place, [parts[field][col]
                                                  for field, col in zip(fields, cols)])
                weights = weights_of(table[kind], marks(kind, vector))
                terms.extend((row, cols, ratio(weight)) for row, weight in enumerate(weights)
                             if weight != 0)
            own.append(tuple(sorted(terms)))
        maps.append(tuple(own))
    told = tuple((name, kind, tuple(ratio(product_with(as_fractions(vector), part))
                                    for part in parts[kind])) for name, kind, vector in reads)
    return (kinds, tuple(len(trees[kind]) for kind, _ in kinds), tuple(maps), told)
