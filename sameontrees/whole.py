"""Programs told the same or parted, and lessened, from their texts."""

from sameontrees.equal import same_log
from sameontrees.errors import NotSame
from sameontrees.forms import formed, program_of
from sameontrees.least import least
from sameontrees.programs import read_program, write_program


def settled(text, other):
    """("same", log) for two texts of programs that tell the same, else what parts them."""
    form = formed(read_program(text))
    other_form = formed(read_program(other))
    try:
        return ("same", same_log(form, other_form))
    except NotSame as error:
        return error.part


def lessened(text):
    """The text of the program of the least form of the text's program."""
    return write_program(program_of(least(formed(read_program(text)))))
