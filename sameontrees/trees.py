"""Kinds of trees, trees by their words, rows, and the sequence of trees."""

from sameontrees.basics import is_high, is_integer, is_tuple
from sameontrees.errors import BadKind, BadKinds, BadRows, BadTree, TooGreat

MOST_KINDS = 6
MOST_MAKERS = 6
MOST_FIELDS = 4
MOST_ROWS = 96
MOST_WORDS = 400
MOST_WORDS_OF_ROWS = 4000


def is_kinds(thing):
    """Whether thing is kinds."""
    if not is_tuple(thing, 1, MOST_KINDS) or not all(_is_kind_alone(kind) for kind in thing):
        return False
    names = [name for name, _ in thing]
    makers = [maker for _, own in thing for maker in own]
    fields = [field for _, own in makers for field in own]
    return (_are_unlike(names) and _are_unlike([name for name, _ in makers])
            and all(field == "number" or field in names for field in fields))


def is_tree(kinds, kind, thing):
    """Whether thing is the words of a tree of the kind."""
    demand_kind(kinds, kind)
    if not is_tuple(thing, 1, MOST_WORDS):
        return False
    makers = makers_of(kinds)
    # A stack instead of a recursion: a tree may be as deep as it has words.
    awaited = [kind]
    for word in thing:
        if not awaited or not _is_word(makers, awaited[-1], word):
            return False
        if awaited.pop() != "number":
            awaited.extend(fields_of(makers, word)[::-1])
    return not awaited


def is_rows(kinds, thing):
    """Whether thing is rows of the kinds."""
    demand_kinds(kinds)
    if not is_tuple(thing, 1, MOST_ROWS):
        return False
    makers = makers_of(kinds)
    kinds_ahead = []
    for row in thing:
        if not _is_row(makers, kinds_ahead, row):
            return False
        kinds_ahead.append(kind_of(makers, row[0]))
    return True


def sizes(kinds, rows):
    """The sizes of the rows' trees."""
    demand_rows(kinds, rows)
    makers = makers_of(kinds)
    found = []
    for maker, entries in rows:
        parts = trees_among(fields_of(makers, maker), entries)
        found.append(1 + sum([found[part] for part in parts]))
    return tuple(found)


def words_of(kinds, rows):
    """The words of the rows' tree, None if they are too many."""
    demand_rows(kinds, rows)
    makers = makers_of(kinds)
    found = []
    for maker, entries in rows:
        fields = fields_of(makers, maker)
        parts = [(entry,) if field == "number" else found[entry]
                 for field, entry in zip(fields, entries)]
        found.append(_joined_within(maker, parts, MOST_WORDS_OF_ROWS))
    return found[-1]


def ahead(kinds, kind, one, other):
    """Whether the tree one stands ahead of the tree other in the sequence of the kind."""
    demand_tree(kinds, kind, one)
    demand_tree(kinds, kind, other)
    makers = makers_of(kinds)
    return place_in_sequence(makers, one) < place_in_sequence(makers, other)


def rows_of(kinds, kind, words):
    """Rows that have the tree and each of its parts just once, in sequence."""
    demand_tree(kinds, kind, words)
    makers = makers_of(kinds)
    parts = _parts_of(makers, words)
    if len(parts) > MOST_ROWS:
        raise TooGreat("the tree has too many unlike parts for rows")
    names = [name for name, _ in kinds]
    return _as_rows(parts, sorted(parts, key=lambda part: _place_among_kinds(makers, names, part)))


def demand_kinds(kinds):
    """Raise BadKinds if kinds are none."""
    if not is_kinds(kinds):
        raise BadKinds("these are no kinds")


def demand_kind(kinds, kind):
    """Raise the error of the first argument that is not right."""
    demand_kinds(kinds)
    if not isinstance(kind, str) or kind not in [name for name, _ in kinds]:
        raise BadKind("this is no name of a kind")


def demand_tree(kinds, kind, words):
    """Raise the error of the first argument that is not right."""
    if not is_tree(kinds, kind, words):
        raise BadTree("these are no words of a tree of the kind")


def demand_rows(kinds, rows):
    """Raise the error of the first argument that is not right."""
    if not is_rows(kinds, rows):
        raise BadRows("these are no rows of the kinds")


def makers_of(kinds):
    """A dict with, for each maker's name, its kind's name, its index there, and its fields."""
    return {maker: (kind, place, fields)
            for kind, makers in kinds for place, (maker, fields) in enumerate(makers)}


def kind_of(makers, maker):
    """The name of the maker's kind."""
    return makers[maker][0]


def fields_of(makers, maker):
    """The fields of the maker."""
    return makers[maker][2]


def trees_among(fields, entries):
    """A list of the entries that stand for trees, not for integers."""
    return [entry for field, entry in zip(fields, entries) if field != "number"]


def with_trees(fields, entries, exchange):
    """The entries, with what exchange has at each that stands for a tree in its place."""
    return tuple([entry if field == "number" else exchange[entry]
                  for field, entry in zip(fields, entries)])


def rows_of_tree(makers, rows, index):
    """Those of the rows that are parts of the tree at the index, and itself, in their order."""
    led_to = {index: True}
    waiting = [index]
    while waiting:
        maker, entries = rows[waiting.pop()]
        for part in trees_among(fields_of(makers, maker), entries):
            if part not in led_to:
                led_to[part] = True
                waiting.append(part)
    order = sorted(led_to)
    place_of = {at: place for place, at in enumerate(order)}
    return tuple([(maker, with_trees(fields_of(makers, maker), entries, place_of))
                  for maker, entries in [rows[at] for at in order]])


def rows_of_parts(makers, words):
    """Rows, however many, that have the tree and each of its parts just once, the tree last."""
    parts = _parts_of(makers, words)
    return _as_rows(parts, list(parts))


def place_in_sequence(makers, words):
    """What is compared of two trees of a kind: the size, then a number for each word."""
    size = len([word for word in words if isinstance(word, str)])
    ranks = [makers[word][1] if isinstance(word, str) else _rank(word) for word in words]
    return (size, ranks)


def _rank(number):
    """The place of an integer among 0, 1, -1, 2, -2 and so on."""
    return 2 * number - 1 if number > 0 else -2 * number


def _is_kind_alone(thing):
    """Whether thing is a kind, whatever kinds its fields name."""
    if not is_tuple(thing, 2, 2):
        return False
    name, makers = thing
    return (is_high(name) and is_tuple(makers, 1, MOST_MAKERS)
            and all(_is_maker_alone(maker) for maker in makers))


def _is_maker_alone(thing):
    """Whether thing is a maker, whatever kinds its fields name."""
    if not is_tuple(thing, 2, 2):
        return False
    name, fields = thing
    return (is_high(name) and is_tuple(fields, 0, MOST_FIELDS)
            and all(isinstance(field, str) for field in fields))


def _are_unlike(names):
    """Whether no two of the names are equal."""
    return len(set(names)) == len(names)


def _is_word(makers, field, word):
    """Whether word may be the first one of what stands at the field."""
    if field == "number":
        return is_integer(word)
    return isinstance(word, str) and word in makers and kind_of(makers, word) == field


def _is_row(makers, kinds_ahead, thing):
    """Whether thing is a row behind rows of these kinds."""
    if not is_tuple(thing, 2, 2):
        return False
    maker, entries = thing
    if not isinstance(maker, str) or maker not in makers:
        return False
    fields = fields_of(makers, maker)
    return (is_tuple(entries, len(fields), len(fields))
            and all(_is_entry(kinds_ahead, field, entry) for field, entry in zip(fields, entries)))


def _is_entry(kinds_ahead, field, entry):
    """Whether entry is one for the field, in a row behind rows of these kinds."""
    if not is_integer(entry):
        return False
    return field == "number" or (0 <= entry < len(kinds_ahead) and kinds_ahead[entry] == field)


def _joined_within(maker, parts, most):
    """The words of the maker over parts, None if a part is None or they are more than most."""
    words = [maker]
    for part in parts:
        if part is None:
            return None
        words.extend(part)
    return tuple(words) if len(words) <= most else None


def _parts_of(makers, words):
    """A dict with, for the words of each part of the tree, what stands at the part's fields.

    That is an integer or the words of a part, which the dict has ahead.
    """
    parts = {}
    # From the last word to the first: so the fields of a maker are met ahead of it.
    met = []
    for word in reversed(words):
        if not isinstance(word, str):
            met.append(word)
            continue
        entries = [met.pop() for _ in fields_of(makers, word)]
        joined = [word]
        for entry in entries:
            joined.extend(entry if isinstance(entry, tuple) else (entry,))
        met.append(tuple(joined))
        parts[tuple(joined)] = entries
    return parts


def _place_among_kinds(makers, names, words):
    """What is compared of two trees of any kinds: the size, the kind, the sequence."""
    size, ranks = place_in_sequence(makers, words)
    return (size, names.index(kind_of(makers, words[0])), ranks)


def _as_rows(parts, order):
    """The rows of the parts in the order."""
    index = {part: place for place, part in enumerate(order)}
    return tuple([(part[0], _indexed(index, parts[part])) for part in order])


def _indexed(index, entries):
    """The entries with the index of a part in the place of its words."""
    return tuple([index[entry] if isinstance(entry, tuple) else entry for entry in entries])
