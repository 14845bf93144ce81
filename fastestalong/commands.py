"""Commands of the console, read from their texts."""

from fastestalong.errors import InvalidCommand, InvalidText
from fastestalong.reading import LINE_END, Reader
from fastestalong.texts import read_limits, read_program

# What stands behind each word, and with it what follows at once.
NUMBERS = {"go ": 1, "feed ": 1}
INTEGERS = {"time ": 1, "profile ": 2}
TEXTS = ("program\n", "limits\n")
AGAIN = "again "
ALONE = (
    "hold", "on", "here", "stand", "done", "rest", "journal", "text", "greatest", "bar",
)
ENTRY_NUMBERS = {"feed": 2, "hold": 1, "on": 1}


def read_numbers(reader, count):
    """So many numbers, with a space between two."""
    told = [reader.number()]
    for _ in range(count - 1):
        reader.pick([" "])
        told.append(reader.number())
    return tuple(told)


def read_integers(reader, count):
    """So many integers, with a space between two."""
    told = [reader.integer()]
    for _ in range(count - 1):
        reader.pick([" "])
        told.append(reader.integer())
    return tuple(told)


def read_entry(reader):
    """A line of a journal, without its end."""
    word = reader.pick(list(ENTRY_NUMBERS))
    reader.pick([" "])
    return (word,) + read_numbers(reader, ENTRY_NUMBERS[word])


def read_again(reader):
    """The way and the journal of a run that is done again."""
    way = reader.number()
    entries = []
    while reader.line_goes_on([]) == LINE_END:
        entries.append(read_entry(reader))
    return (way, tuple(entries))


def read_given(reader, word):
    """What stands behind the word of a command."""
    if word == "program\n":
        return (read_program(reader),)
    if word == "limits\n":
        return (read_limits(reader),)
    if word == AGAIN:
        return read_again(reader)
    if word in NUMBERS:
        return read_numbers(reader, NUMBERS[word])
    if word in INTEGERS:
        return read_integers(reader, INTEGERS[word])
    return ()


def read_command(command):
    """The word of a command, without what follows it at once, and a tuple of what is given with it."""
    if type(command) is not str:
        raise InvalidCommand(0)
    reader = Reader(command, 0)
    try:
        word = reader.pick(list(TEXTS) + list(NUMBERS) + list(INTEGERS) + [AGAIN] + list(ALONE))
        given = read_given(reader, word)
        reader.finish()
    except InvalidText as fault:
        raise InvalidCommand(fault.index)
    return (word.strip(), given)
