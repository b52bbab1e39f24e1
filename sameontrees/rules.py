"""Rules of rewriters: judged, and what they use and make."""

from sameontrees.basics import is_below, is_integer, is_tuple
from sameontrees.trees import fields_of, kind_of, makers_of

MOST_RULE_ROWS = 40


class Judge:
    """One who judges a rule of a maker with these fields, and keeps which fields it names."""

    def __init__(self, others, states, fields):
        self.makers = makers_of(others)
        self.leads = {name: (kind, other) for name, kind, other, _ in states}
        self.fields = fields
        self.named = []
        self.led_to = []

    def is_rule(self, other, thing):
        """Whether thing is a rule of a state that leads to the kind other."""
        if self._is_state_use(other, thing):
            return True
        if not is_tuple(thing, 1, MOST_RULE_ROWS):
            return False
        kinds_ahead = []
        for row in thing:
            if not self._is_row(kinds_ahead, row):
                return False
            kinds_ahead.append(kind_of(self.makers, row[0]))
        return (kinds_ahead[-1] == other and sorted(self.led_to) == list(range(len(thing) - 1))
                and len(set(self.named)) == len(self.named))

    def _is_row(self, kinds_ahead, thing):
        """Whether thing is a rule row behind rows of these kinds."""
        if not is_tuple(thing, 2, 2):
            return False
        maker, entries = thing
        if not isinstance(maker, str) or maker not in self.makers:
            return False
        fields = fields_of(self.makers, maker)
        return (is_tuple(entries, len(fields), len(fields))
                and all([self._is_entry(kinds_ahead, field, entry)
                         for field, entry in zip(fields, entries)]))

    def _is_entry(self, kinds_ahead, field, thing):
        """Whether thing is an entry at the field, in a row behind rows of these kinds."""
        if field == "number":
            return is_integer(thing) or self._is_number_use(thing)
        if is_below(thing, len(kinds_ahead)):
            self.led_to.append(thing)
            return kinds_ahead[thing] == field
        return self._is_state_use(field, thing)

    def _is_number_use(self, thing):
        """Whether thing is ("number", field)."""
        if not is_tuple(thing, 2, 2) or not isinstance(thing[0], str) or thing[0] != "number":
            return False
        return self._names("number", thing[1])

    def _is_state_use(self, other, thing):
        """Whether thing is ("state", name, field) of a state that leads to the kind other."""
        if not is_tuple(thing, 3, 3) or not isinstance(thing[0], str) or thing[0] != "state":
            return False
        _, name, field = thing
        if not isinstance(name, str) or name not in self.leads:
            return False
        kind, led = self.leads[name]
        return led == other and self._names(kind, field)

    def _names(self, wanted, thing):
        """Whether thing is the index of a field that is as wanted."""
        if not is_below(thing, len(self.fields)) or self.fields[thing] != wanted:
            return False
        self.named.append(thing)
        return True


def rules_of(rewriter):
    """A dict of the rules by state and maker."""
    kinds, _, states = rewriter
    makers = {name: own for name, own in kinds}
    return {(name, maker): rule for name, kind, _, rules in states
            for (maker, _), rule in zip(makers[kind], rules)}


def is_alone(rule):
    """Whether the rule is the use of a state, without rows."""
    return rule[0] == "state"


def states_used(rule):
    """A list of (state, field) that the rule uses."""
    uses = [rule] if is_alone(rule) else [entry for _, entries in rule for entry in entries
                                           if isinstance(entry, tuple) and entry[0] == "state"]
    return [(name, field) for _, name, field in uses]


def words_by_rule(makers, rule, entries, made):
    """A list of the words that the rule makes, by what is made of the entries already."""
    if is_alone(rule):
        _, state, field = rule
        return made[(state, entries[field])]
    found = []
    for maker, own in rule:
        words = [maker]
        for field, entry in zip(fields_of(makers, maker), own):
            if isinstance(entry, tuple) and entry[0] == "state":
                _, state, place = entry
                words.extend(made[(state, entries[place])])
            elif isinstance(entry, tuple):
                words.append(entries[entry[1]])
            elif field == "number":
                words.append(entry)
            else:
                words.extend(found[entry])
        found.append(words)
    return found[-1]
