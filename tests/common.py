"""What several tests use: kinds, trees, programs, and objects that are none of these."""


class Prickly:
    """An object that can be neither compared nor hashed."""

    __hash__ = None

    def __eq__(self, other):
        raise AssertionError("an object that is not of the package was compared")


# Part A's example.
BINARY = (("Tree", (("Leaf", ()), ("Node", ("Tree", "number", "Tree")))),)

# Two kinds that lead to each other; a kind and a maker share the name Item.
MIXED = (
    ("List", (("End", ()), ("Item", ("number", "Item", "List")))),
    ("Item", (("One", ("number",)), ("Pair", ("Item", "Item")), ("Box", ("List",)))),
)

# Trees of one kind that are as deep as they have makers.
CHAIN = (("Nat", (("Zero", ()), ("Next", ("Nat",)), ("Mark", ("number", "Nat")))),)

# Objects that are no kinds, no rows, no tree and no program, whatever stands around them.
NEVER = (
    None, True, False, 0, 1, -1, 10 ** 40, "", "Tree", "number", b"Tree", (), [], {}, set(),
    frozenset(), range(2), object(), Prickly(), int, len, (None,), (True,), ((),), ([],),
    (Prickly(),), (Prickly(), Prickly()), (Prickly(), Prickly(), Prickly()),
)


def chain(depth, last="Zero"):
    """The words of a tree of CHAIN with so many makers."""
    return ("Next",) * (depth - 1) + (last,)


def chain_rows(many):
    """So many rows of CHAIN, each leading to the one ahead."""
    return (("Zero", ()),) + tuple(("Next", (place,)) for place in range(many - 1))


def spoilt(thing):
    """Versions of thing with one object in it of another kind of objects than before."""
    yield None
    yield Prickly()
    if isinstance(thing, tuple):
        yield list(thing)
        yield dict.fromkeys(range(len(thing)))
        for place, entry in enumerate(thing):
            for version in spoilt(entry):
                yield thing[:place] + (version,) + thing[place + 1:]
    elif isinstance(thing, int):
        yield bool(thing)
        yield "1"
        yield (thing,)
    elif isinstance(thing, str):
        yield thing.encode()
        yield [thing]
        yield (thing,)


def is_plain(thing):
    """Whether thing is made of integers, truths, strs, None and tuples alone."""
    if type(thing) is tuple:
        return all(is_plain(entry) for entry in thing)
    return thing is None or type(thing) in (int, bool, str)


def raised(error, function, *arguments, **named):
    """The error of just this class that the call raises; fails if there is none."""
    try:
        told = function(*arguments, **named)
    except error as found:
        if type(found) is not error:
            raise AssertionError(f"{type(found).__name__} instead of {error.__name__}") from found
        return found
    raise AssertionError(f"{error.__name__} was not raised, but returned was {told!r}")
