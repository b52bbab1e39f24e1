"""What several tests use: kinds, trees, programs, forms, and objects that are none of these."""

import itertools


class Prickly:
    """An object that can be neither compared nor hashed."""

    __hash__ = None

    def __eq__(self, other):
        raise AssertionError("an object that is not of the package was compared")


# Part A's example.
BINARY = (("Tree", (("Leaf", ()), ("Node", ("Tree", "number", "Tree")))),)

# Two kinds that lead to each other; a kind and a maker share the name Item.
MIXED = (
    ("List", (("End", ()), ("Item", ("number", "Item", "List")))),
    ("Item", (("One", ("number",)), ("Pair", ("Item", "Item")), ("Box", ("List",)))),
)

# Trees of one kind that are as deep as they have makers.
CHAIN = (("Nat", (("Zero", ()), ("Next", ("Nat",)), ("Mark", ("number", "Nat")))),)

# Objects that are no kinds, no rows, no tree and no program, whatever stands around them.
NEVER = (
    None, True, False, 0, 1, -1, 10 ** 40, "", "Tree", "number", b"Tree", (), [], {}, set(),
    frozenset(), range(2), object(), Prickly(), int, len, (None,), (True,), ((),), ([],),
    (Prickly(),), (Prickly(), Prickly()), (Prickly(), Prickly(), Prickly()),
)


def chain(depth, last="Zero"):
    """The words of a tree of CHAIN with so many makers."""
    return ("Next",) * (depth - 1) + (last,)


def chain_rows(many):
    """So many rows of CHAIN, each leading to the one ahead."""
    return (("Zero", ()),) + tuple(("Next", (place,)) for place in range(many - 1))


def spoilt(thing):
    """Versions of thing with one object in it of another kind of objects than before."""
    yield None
    yield Prickly()
    if isinstance(thing, tuple):
        yield list(thing)
        yield dict.fromkeys(range(len(thing)))
        for place, entry in enumerate(thing):
            for version in spoilt(entry):
                yield thing[:place] + (version,) + thing[place + 1:]
    elif isinstance(thing, int):
        yield bool(thing)
        yield "1"
        yield (thing,)
    elif isinstance(thing, str):
        yield thing.encode()
        yield [thing]
        yield (thing,)


def is_plain(thing):
    """Whether thing is made of integers, truths, strs, None and tuples alone."""
    if type(thing) is tuple:
        return all(is_plain(entry) for entry in thing)
    return thing is None or type(thing) in (int, bool, str)


def raised(error, function, *arguments, **named):
    """The error of just this class that the call raises; fails if there is none."""
    try:
        told = function(*arguments, **named)
    except error as found:
        if type(found) is not error:
            raise AssertionError(f"{type(found).__name__} instead of {error.__name__}") from found
        return found
    raise AssertionError(f"{error.__name__} was not raised, but returned was {told!r}")


# Part E's example: coordinate 1 is the number of makers.
PAIRS = (("Tree", (("Leaf", ()), ("Node", ("Tree", "Tree")))),)
S = (PAIRS, (2,), ((((0, (), (1, 1)), (1, (), (1, 1))),
                    ((0, (0, 0), (1, 1)), (1, (0, 0), (1, 1)), (1, (0, 1), (1, 1)),
                     (1, (1, 0), (1, 1)))),), (("size", "Tree", ((0, 1), (1, 1))),))

# Part I's example: coordinate 1 is the number of leaves.
LEAVES = (PAIRS, (2,), ((((0, (), (1, 1)), (1, (), (1, 1))),
                         ((0, (0, 0), (1, 1)), (1, (0, 1), (1, 1)), (1, (1, 0), (1, 1)))),),
          (("size", "Tree", ((0, 1), (1, 1))),))

# A form with number fields, two kinds and fractions.
MIXED_FORM = (
    MIXED, (2, 3),
    ((((0, (), (1, 1)), (1, (), (-2, 3))),
      ((0, (0, 2, 0), (1, 2)), (0, (1, 0, 1), (5, 1)), (1, (1, 1, 0), (-1, 1)))),
     (((0, (0,), (1, 1)), (1, (1,), (1, 1)), (2, (0,), (7, 2)), (2, (1,), (-1, 3))),
      ((0, (0, 0), (1, 1)), (1, (0, 1), (1, 1)), (2, (2, 2), (1, 10))),
      ((1, (1,), (3, 1)),))),
    (("one", "List", ((1, 1), (0, 1))), ("two", "Item", ((0, 1), (1, 2), (-3, 1))),
     ("three", "List", ((1, 3), (1, 6)))),
)


def with_part(thing, path, part):
    """The thing with the part at the path of indexes."""
    if not path:
        return part
    at, *further = path
    return thing[:at] + (with_part(thing[at], further, part),) + thing[at + 1:]


def lone_form(dim, leaf=(), reads=()):
    """A form of one kind with one maker without fields."""
    return ((("Dot", (("One", ()),)),), (dim,), ((leaf,),), reads)


def great_form(dim, many):
    """A form with so many terms of a maker with four fields of its kind."""
    fields = ("Dot",) * 4
    places = itertools.islice(itertools.product(range(dim), itertools.product(range(dim), repeat=4)),
                              many)
    terms = tuple((row, cols, (1, 1)) for row, cols in places)
    return ((("Dot", (("One", ()), ("Four", fields))),), (dim,), ((((0, (), (1, 1)),), terms),), ())


def dims_form(*dims):
    """A form of so many kinds, each with one maker without fields and one for itself."""
    kinds = tuple((f"K{at}", ((f"Z{at}", ()), (f"N{at}", (f"K{at}",)))) for at in range(len(dims)))
    return (kinds, dims, (((), ()),) * len(dims), ())


def full_form(many):
    """A form with so many makers, from 20,000 on, over ten basis trees of the kind T."""
    n = "number"
    # 1 + 10 + 10 ** 4 of Leaf, Next and Quad, and the rest of kinds without coordinates.
    over = [("T", "T", "T", n)] * 4 + [("T", "T", "T"), ("T", "T", n, n), ("T", n, "T", n)]
    over += [("T", "T"), (n, n, n, "T"), (n, n, n)] + [()] * (many - 20000 + 1)
    makers = [(f"M{at}", one) for at, one in enumerate(over)]
    kinds = ((("T", (("Leaf", ()), ("Next", ("T",)), ("Quad", ("T",) * 4))),)
             + tuple((name, tuple(makers[at:at + 6])) for name, at in (("U", 0), ("V", 6), ("W", 12))
                     if makers[at:at + 6]))
    steps = tuple((at + 1, (at,), (1, 1)) for at in range(9))
    quads = tuple((at, (at, at, 9, 0), (at + 1, 1)) for at in range(10))
    maps = ((((0, (), (1, 1)),), steps, quads),) + tuple(((),) * len(own) for _, own in kinds[1:])
    dims = (10,) + (0,) * (len(kinds) - 1)
    return (kinds, dims, maps, (("last", "T", ((0, 1),) * 9 + ((1, 1),)),))
