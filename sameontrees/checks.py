"""Programs checked, and what a checked program tells of a tree."""

from sameontrees.basics import product_of, sum_of
from sameontrees.errors import BadName, NotChecked
from sameontrees.programs import demand_program
from sameontrees.trees import demand_tree, makers_of, rows_of_parts


def check(program):
    """None, or what is wrong first: (word, name of the function)."""
    demand_program(program)
    kinds, functions = program
    what = _wrong_in_heads(kinds, functions)
    return _wrong_in_cases(kinds, functions) if what is None else what


def checked(program):
    """Raise NotChecked if something is wrong in the program."""
    what = check(program)
    if what is not None:
        raise NotChecked(what)


def tell(program, name, words):
    """The ratio that the function with the name tells of the tree."""
    checked(program)
    kinds, functions = program
    heads = _kinds_of_functions(functions)
    if not isinstance(name, str) or name not in heads:
        raise BadName("this is no name of a function")
    demand_tree(kinds, heads[name], words)
    cases = {(function, maker): (names, e)
             for function, _, own in functions for maker, names, e in own}
    rows = rows_of_parts(makers_of(kinds), words)
    told = {}
    # Each row is behind its parts, so what is called is told already.
    for at, asked in enumerate(_functions_asked(cases, rows, name)):
        maker, entries = rows[at]
        for function in asked:
            names, e = cases[(function, maker)]
            told[(function, at)] = _told(dict(zip(names, entries)), told, e)
    return told[(name, len(rows) - 1)]


def _kinds_of_functions(functions):
    """A dict with the kind of each function."""
    return {name: kind for name, kind, _ in functions}


def _wrong_in_heads(kinds, functions):
    """What is wrong first in the heads, None if nothing is."""
    makers = {kind: [maker for maker, _ in own] for kind, own in kinds}
    names = []
    for name, kind, cases in functions:
        if name in names:
            return ("double", name)
        if kind not in makers:
            return ("kind", name)
        if [maker for maker, _, _ in cases] != makers[kind]:
            return ("makers", name)
        names.append(name)
    return None


def _wrong_in_cases(kinds, functions):
    """What is wrong first in the cases, the heads being right, None if nothing is."""
    makers = dict(kinds)
    heads = _kinds_of_functions(functions)
    for name, kind, cases in functions:
        for (_, names, e), (_, fields) in zip(cases, makers[kind]):
            word = _wrong_in_case(heads, fields, names, e)
            if word is not None:
                return (word, name)
    return None


def _wrong_in_case(heads, fields, names, e):
    """The word for what is wrong first in the case, None if nothing is."""
    if len(names) != len(fields):
        return "count"
    if len(set(names)) != len(names):
        return "double"
    word, _ = _judged(heads, dict(zip(names, fields)), e)
    return word


def _judged(heads, fields, e):
    """The word for what is wrong first in e, or None, and a list of the fields that e uses."""
    if e[0] == "num":
        return (None, [])
    if e[0] == "field":
        return (_wrong_use(fields, e[1], "number"), [e[1]])
    if e[0] == "call":
        if e[1] not in heads:
            return ("name", [])
        return (_wrong_use(fields, e[2], heads[e[1]]), [e[2]])
    used = []
    for part in e[1]:
        word, names = _judged(heads, fields, part)
        if word is not None:
            return (word, [])
        used.extend(names)
    unlike = sorted(set(used))
    if e[0] == "product" and len(unlike) < len(used):
        return ("twice", [])
    return (None, unlike)


def _wrong_use(fields, name, wanted):
    """The word for what is wrong where the field with the name should be the one wanted."""
    if name not in fields:
        return "name"
    return None if fields[name] == wanted else "field"


def _functions_asked(cases, rows, name):
    """For each row, a dict of the functions that are asked of it if name is asked of the last."""
    asked = [{} for _ in rows]
    asked[-1][name] = True
    for at in reversed(range(len(rows))):
        maker, entries = rows[at]
        for function in list(asked[at]):
            names, e = cases[(function, maker)]
            places = dict(zip(names, entries))
            for called, field in _calls_in(e):
                asked[places[field]][called] = True
    return asked


def _calls_in(e):
    """A list of the calls in e: (function, field)."""
    if e[0] == "call":
        return [(e[1], e[2])]
    calls = []
    if e[0] in ("sum", "product"):
        for part in e[1]:
            calls.extend(_calls_in(part))
    return calls


def _told(entries, told, e):
    """The ratio that e is, by the entries of its fields and what is told of them."""
    if e[0] == "num":
        return e[1]
    if e[0] == "field":
        return (entries[e[1]], 1)
    if e[0] == "call":
        return told[(e[1], entries[e[2]])]
    ratios = [_told(entries, told, part) for part in e[1]]
    return sum_of(ratios) if e[0] == "sum" else product_of(ratios)
