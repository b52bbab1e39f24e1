"""Forms with many coordinates and many terms, by a few words."""

ONE = (1, 1)


def chain_kind(letter, dim):
    """A kind whose trees are chains, with maps by which dim of them have independent vectors.

    The coordinate 0 is 1 at each tree; of the trees with up to dim makers, the one with k + 1 makers
    has 1 at the coordinate k, too, and 0 at all others.
    """
    kind = (letter, ((f"{letter}leaf", ()), (f"{letter}next", (letter,))))
    lines = [(0, (0,), ONE), (1, (0,), ONE)] + [(1, (at,), (-1, 1)) for at in range(1, dim)]
    lines += [(at + 1, (at,), ONE) for at in range(1, dim - 1)]
    return kind, (((0, (), ONE),), tuple(sorted(lines)))


def chain_reads(letter, dim):
    """A read for each coordinate."""
    return tuple((f"{letter.lower()}{at}", letter, unit(dim, at)) for at in range(dim))


def unit(dim, place):
    """The vector that is 1 at the place and 0 else."""
    return tuple((int(at == place), 1) for at in range(dim))


def products_form(dims, fields, extra=False):
    """A form with few terms of a maker Many whose least form has one for each of all products.

    dims are those of kinds A, B, .. of chains; fields are those of Many, which is of the kind U; with
    extra there is one more term.
    """
    letters = "ABCDE"[:len(dims)]
    chains = [chain_kind(letter, dim) for letter, dim in zip(letters, dims)]
    reads = tuple(read for letter, dim in zip(letters, dims) for read in chain_reads(letter, dim))
    kinds = tuple(kind for kind, _ in chains) + (("U", (("Lone", ()), ("Many", fields))),)
    many = ((0, (0,) * len(fields), ONE),) + (((1, (1,) * len(fields), ONE),) if extra else ())
    maps = tuple(own for _, own in chains) + ((((1, (), ONE),), many),)
    return (kinds, (*dims, 2), maps, (*reads, ("u", "U", (ONE, (0, 1))), ("v", "U", ((0, 1), ONE))))


def ring_form(dim):
    """Chains that are told by how many makers they have, as far as it is told by a ring of the dim."""
    kinds = (("Nat", (("Zero", ()), ("Next", ("Nat",)))),)
    turn = tuple(sorted((((at + 1) % dim), (at,), ONE) for at in range(dim)))
    return (kinds, (dim,), ((((0, (), ONE),), turn),), (("last", "Nat", unit(dim, dim - 1)),))


def deep_pair(more):
    """Two forms that are parted first by a tree with so many rows, from 34 to 48."""
    kinds = (("A", (("Az", ()), ("As", ("A",)))), ("B", (("Bz", ("A",)), ("Bs", ("B",)))))
    dim = more - 32
    ends = tuple((at + 1, (at,), ONE) for at in range(15))
    turns = ((0, (15,), ONE),) + ends
    last = (((0, (15,), ONE),), tuple((at + 1, (at,), ONE) for at in range(dim - 1)))
    return [(kinds, (16, dim), ((((0, (), ONE),), own), last), (("b", "B", unit(dim, dim - 1)),))
            for own in (ends, turns)]
