"""Programs: judged by their form, written as text and read from text."""

from math import gcd

from sameontrees.basics import is_high, is_low, is_ratio, is_run, is_tuple
from sameontrees.errors import BadProgram, BadText
from sameontrees.trees import MOST_FIELDS, MOST_MAKERS, is_kinds

MOST_FUNCTIONS = 60
LEAST_PARTS = 2
MOST_PARTS = 60
MOST_EXPRESSIONS = 3000
LONGEST_CHAIN = 20
GREATEST_NUMERAL = 1000000000
MOST_DIGITS = 10
MOST_OPEN_BRACKETS = 99


def is_program(thing):
    """Whether thing is a program, by its form alone."""
    if not is_tuple(thing, 2, 2):
        return False
    kinds, functions = thing
    return (is_kinds(kinds) and is_tuple(functions, 0, MOST_FUNCTIONS)
            and all(_is_function(function) for function in functions))


def write_program(program):
    """The text of the program, with one blank between two words."""
    demand_program(program)
    kinds, functions = program
    words = []
    for name, makers in kinds:
        words.extend(_words_of_kind(name, makers))
    for name, kind, cases in functions:
        words.extend(_words_of_function(name, kind, cases))
    return " ".join(words)


def read_program(text):
    """The program of which text is a text."""
    if not isinstance(text, str):
        raise BadText(0)
    reader = Reader(text)
    kinds = [_read_kind(reader)]
    while reader.peek() == "kind":
        kinds.append(_read_kind(reader))
    functions = []
    while reader.peek() != "":
        functions.append(_read_function(reader))
    program = (tuple(kinds), tuple(functions))
    if not is_program(program):
        raise BadText(len(text))
    return program


def demand_program(program):
    """Raise BadProgram if program is none."""
    if not is_program(program):
        raise BadProgram("this is no program")


def _is_function(thing):
    """Whether thing is a function."""
    if not is_tuple(thing, 3, 3):
        return False
    name, kind, cases = thing
    return (is_low(name) and is_high(kind) and is_tuple(cases, 0, MOST_MAKERS)
            and all(_is_case_alone(case) for case in cases)
            and _are_expressions([e for _, _, e in cases]))


def _is_case_alone(thing):
    """Whether thing is a case, whatever stands where its expression should."""
    if not is_tuple(thing, 3, 3):
        return False
    maker, names, _ = thing
    return is_high(maker) and is_tuple(names, 0, MOST_FIELDS) and all(is_low(name) for name in names)


def _are_expressions(things):
    """Whether things are expressions and together within the bounds of a function."""
    waiting = [(thing, 1) for thing in things]
    counted = 0
    while waiting:
        thing, chain = waiting.pop()
        counted += 1
        if counted > MOST_EXPRESSIONS or chain > LONGEST_CHAIN or not _is_expression_alone(thing):
            return False
        if thing[0] in ("sum", "product"):
            waiting.extend([(part, chain + 1) for part in thing[1]])
    return True


def _is_expression_alone(thing):
    """Whether thing is an expression, whatever stands where its parts should."""
    if not is_tuple(thing, 2, 3) or not isinstance(thing[0], str):
        return False
    if thing[0] == "call":
        return len(thing) == 3 and is_low(thing[1]) and is_low(thing[2])
    if len(thing) != 2:
        return False
    if thing[0] == "num":
        return _is_bounded_ratio(thing[1])
    if thing[0] == "field":
        return is_low(thing[1])
    return thing[0] in ("sum", "product") and is_tuple(thing[1], LEAST_PARTS, MOST_PARTS)


def _is_bounded_ratio(thing):
    """Whether thing is a ratio that a program may have."""
    return is_ratio(thing) and abs(thing[0]) <= GREATEST_NUMERAL and thing[1] <= GREATEST_NUMERAL


def _words_of_kind(name, makers):
    """The words of a kind."""
    words = ["kind", name, "{"]
    for maker, fields in makers:
        words.extend([maker] + _words_of_list(fields))
    return words + ["}"]


def _words_of_function(name, kind, cases):
    """The words of a function."""
    words = ["fun", name, "(", kind, ")", "{"]
    for maker, names, e in cases:
        words.extend([maker] + _words_of_list(names) + ["="] + _words_of_expression(e) + [";"])
    return words + ["}"]


def _words_of_list(names):
    """The words of names in brackets."""
    return ["("] + _with_between([[name] for name in names], ",") + [")"]


def _words_of_expression(e):
    """The words of an expression."""
    if e[0] == "num":
        top, bottom = e[1]
        return [str(top)] if bottom == 1 else [str(top), "/", str(bottom)]
    if e[0] == "field":
        return [e[1]]
    if e[0] == "call":
        return [e[1], "(", e[2], ")"]
    sign = "+" if e[0] == "sum" else "*"
    return ["("] + _with_between([_words_of_expression(part) for part in e[1]], sign) + [")"]


def _with_between(runs, sign):
    """The words of all runs of words, the sign between two runs."""
    words = []
    for place, run in enumerate(runs):
        if place > 0:
            words.append(sign)
        words.extend(run)
    return words


class Reader:
    """The words of a text, how far they are read, and how many brackets are open there."""

    def __init__(self, text):
        self.words = _words_in(text)
        self.at = 0
        self.depth = 0

    def peek(self):
        """The first word that is not taken; it is empty behind the last one."""
        return self.words[self.at][1]

    def take(self, right):
        """Take the first word that is not taken, if it is right there, and return it."""
        place, word = self.words[self.at]
        if word in ("(", "{"):
            self.depth += 1
        elif word in (")", "}"):
            self.depth -= 1
        if not right or self.depth > MOST_OPEN_BRACKETS:
            raise BadText(place)
        self.at += 1
        return word

    def take_word(self, word):
        """Take just this word."""
        self.take(self.peek() == word)

    def take_low(self):
        """Take a low name and return it."""
        return self.take(is_low(self.peek()))

    def take_high(self):
        """Take a high name and return it."""
        return self.take(is_high(self.peek()))


def _words_in(text):
    """A list of (place, word), its last one an empty word behind the text."""
    words = []
    at = 0
    while at < len(text):
        end = _end_of_word(text, at)
        if text[at] not in (" ", "\n"):
            words.append((at, text[at:end]))
        at = end
    words.append((len(text), ""))
    return words


def _end_of_word(text, at):
    """The place behind the word, or the blank, that begins at the place."""
    end = at + 1
    if text[at] == "-" or is_run(text[at]):
        while end < len(text) and is_run(text[end]):
            end += 1
    return end


def _read_kind(reader):
    """The kind that the reader stands at."""
    reader.take_word("kind")
    name = reader.take_high()
    reader.take_word("{")
    makers = [_read_maker(reader)]
    while reader.peek() != "}":
        makers.append(_read_maker(reader))
    reader.take_word("}")
    return (name, tuple(makers))


def _read_maker(reader):
    """The maker that the reader stands at."""
    name = reader.take_high()
    return (name, _read_list(reader, _is_word_of_field))


def _is_word_of_field(word):
    """Whether the word may stand for a field of a maker."""
    return word == "number" or is_high(word)


def _read_list(reader, is_right):
    """The words in brackets, with commas between, each of which is right."""
    reader.take_word("(")
    words = []
    while reader.peek() != ")":
        if words:
            reader.take_word(",")
        words.append(reader.take(is_right(reader.peek())))
    reader.take_word(")")
    return tuple(words)


def _read_function(reader):
    """The function that the reader stands at."""
    reader.take_word("fun")
    name = reader.take_low()
    reader.take_word("(")
    kind = reader.take_high()
    reader.take_word(")")
    reader.take_word("{")
    cases = []
    while reader.peek() != "}":
        cases.append(_read_case(reader))
    reader.take_word("}")
    return (name, kind, tuple(cases))


def _read_case(reader):
    """The case that the reader stands at."""
    maker = reader.take_high()
    names = _read_list(reader, is_low)
    reader.take_word("=")
    e = _read_expression(reader)
    reader.take_word(";")
    return (maker, names, e)


def _read_expression(reader):
    """The expression that the reader stands at.

    The bound of open brackets keeps the recursion short.
    """
    if reader.peek() == "(":
        return _read_parts(reader)
    if is_low(reader.peek()):
        return _read_field_or_call(reader)
    return ("num", _read_ratio(reader))


def _read_parts(reader):
    """The sum or product that the reader stands at."""
    reader.take_word("(")
    parts = [_read_expression(reader)]
    sign = reader.take(reader.peek() in ("+", "*"))
    parts.append(_read_expression(reader))
    while reader.peek() != ")":
        reader.take_word(sign)
        parts.append(_read_expression(reader))
    reader.take_word(")")
    return ("sum" if sign == "+" else "product", tuple(parts))


def _read_field_or_call(reader):
    """The field or call that the reader stands at."""
    name = reader.take_low()
    if reader.peek() != "(":
        return ("field", name)
    reader.take_word("(")
    field = reader.take_low()
    reader.take_word(")")
    return ("call", name, field)


def _read_ratio(reader):
    """The ratio that the reader stands at."""
    top = _numeral(reader.peek())
    reader.take(top is not None)
    if reader.peek() != "/":
        return (top, 1)
    reader.take_word("/")
    bottom = _numeral(reader.peek())
    reader.take(bottom is not None and bottom >= 2 and gcd(top, bottom) == 1)
    return (top, bottom)


def _numeral(word):
    """The integer that the word is a numeral of, None if it is none within the bounds."""
    digits = word.removeprefix("-")
    # Python refuses to make integers of very many digits, so these are counted first.
    if not is_run(digits) or not digits.isdigit() or len(digits) > MOST_DIGITS:
        return None
    if digits[0] == "0" and word != "0":
        return None
    number = int(word)
    return number if abs(number) <= GREATEST_NUMERAL else None
