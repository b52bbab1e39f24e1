"""Rewriters: states that make trees of other kinds of trees, and forms that are told behind them."""

from sameontrees.basics import is_low, is_tuple
from sameontrees.composing import Composer
from sameontrees.errors import BadName, BadRewriter, TooGreat, Unlike
from sameontrees.forms import demand_form, is_form
from sameontrees.rules import Judge, rules_of, states_used, words_by_rule
from sameontrees.trees import MOST_WORDS_OF_ROWS, demand_tree, is_kinds, makers_of, rows_of_parts

MOST_STATES = 8
BETWEEN_NAMES = "x"


def is_rewriter(thing):
    """Whether thing is a rewriter."""
    if not is_tuple(thing, 3, 3):
        return False
    kinds, others, states = thing
    if not is_kinds(kinds) or not is_kinds(others) or not is_tuple(states, 1, MOST_STATES):
        return False
    makers = {name: own for name, own in kinds}
    names = [name for name, _ in others]
    if not all([_is_state_alone(makers, names, state) for state in states]):
        return False
    if len({name for name, _, _, _ in states}) < len(states):
        return False
    return all([Judge(others, states, fields).is_rule(other, rule)
                for _, kind, other, rules in states
                for (_, fields), rule in zip(makers[kind], rules)])


def rewritten(rewriter, name, words):
    """The words that the state with the name makes of the tree, None if they are too many."""
    demand_rewriter(rewriter)
    kinds, others, states = rewriter
    kind_with = {state: kind for state, kind, _, _ in states}
    if not isinstance(name, str) or name not in kind_with:
        raise BadName("this is no name of a state")
    demand_tree(kinds, kind_with[name], words)
    rules = rules_of(rewriter)
    makers = makers_of(others)
    rows = rows_of_parts(makers_of(kinds), words)
    made = {}
    # Each row is behind its parts, so what a rule uses is made already.
    for at, asked in enumerate(_states_asked(rules, rows, name)):
        maker, entries = rows[at]
        for state in asked:
            told = words_by_rule(makers, rules[(state, maker)], entries, made)
            # All that is asked stands in the whole, so that would have too many words, too.
            if len(told) > MOST_WORDS_OF_ROWS:
                return None
            made[(state, at)] = told
    return tuple(made[(name, len(rows) - 1)])


def composed(rewriter, form):
    """The form over the rewriter's kinds that tells what the form does of what the states make."""
    demand_rewriter(rewriter)
    demand_form(form)
    kinds, others, _ = rewriter
    if form[0] != others:
        raise Unlike("the form is not over the kinds of which the rewriter makes trees")
    composer = Composer(rewriter, form)
    reads = _reads_behind(rewriter, form, composer)
    # Coordinates and reads are looked at first: they tell ahead of all terms that it is too great.
    hollow = (kinds, composer.dims, tuple([((),) * len(makers) for _, makers in kinds]), reads)
    if not is_form(hollow):
        raise TooGreat("the form behind the rewriter has too many coordinates, or not such reads")
    maps = [tuple([composer.terms_behind(name, maker) for maker in makers]) for name, makers in kinds]
    return (kinds, composer.dims, tuple(maps), reads)


def demand_rewriter(rewriter):
    """Raise BadRewriter if rewriter is none."""
    if not is_rewriter(rewriter):
        raise BadRewriter("this is no rewriter")


def _is_state_alone(makers, others, thing):
    """Whether thing is a state, whatever its rules are.

    Makers are a dict of the makers of each kind, others the names of the other kinds.
    """
    if not is_tuple(thing, 4, 4):
        return False
    name, kind, other, rules = thing
    if not is_low(name) or not isinstance(kind, str) or kind not in makers:
        return False
    return (isinstance(other, str) and other in others
            and is_tuple(rules, len(makers[kind]), len(makers[kind])))


def _states_asked(rules, rows, name):
    """For each row, a dict of the states that are asked of it if name is asked of the last."""
    asked = [{} for _ in rows]
    asked[-1][name] = True
    for at in reversed(range(len(rows))):
        maker, entries = rows[at]
        for state in list(asked[at]):
            for used, field in states_used(rules[(state, maker)]):
                asked[entries[field]][used] = True
    return asked


def _reads_behind(rewriter, form, composer):
    """The reads of the composed form, however many and whatever their names."""
    kinds, _, states = rewriter
    dim_of = {name: dim for (name, _), dim in zip(kinds, composer.dims)}
    reads = []
    for read, read_kind, vector in form[3]:
        for name, kind, other, _ in states:
            if other == read_kind:
                ahead = ((0, 1),) * composer.starts[name]
                behind = ((0, 1),) * (dim_of[kind] - len(ahead) - len(vector))
                reads.append((read + BETWEEN_NAMES + name, kind, ahead + vector + behind))
    return tuple(reads)
