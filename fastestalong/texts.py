"""The texts of programs, limits and courses."""

from fastestalong.errors import InvalidLimits, InvalidText
from fastestalong.exact import NOUGHT, added, subtracted
from fastestalong.numerals import number_text
from fastestalong.programs import MOST_AXES, axes_fault, check_program
from fastestalong.reading import LINE_END, Reader

AXES = ("x", "y", "z")
AXIS_WORDS = (" x ", " y ", " z ")
FEED = " feed "
LEAST = " least "
STOP = " stop"


def reader_of(text):
    """A reader of a text; InvalidText of what is no string."""
    if type(text) is not str:
        raise InvalidText(0)
    return Reader(text, 0)


def read_start(reader):
    """The point of the line of the start, and the end of this line."""
    reader.pick(["start"])
    numbers = []
    for word in AXIS_WORDS:
        if reader.pick([word, LINE_END] if numbers else [word]) == LINE_END:
            return tuple(numbers)
        numbers.append(reader.number())
    reader.pick([LINE_END])
    return tuple(numbers)


def next_word(reader, words, needs_feed):
    """The next word of a step's line, or what stands at its end; a feed that is needed may not be left out."""
    if needs_feed:
        return reader.pick(words[:words.index(FEED) + 1])
    return reader.line_goes_on(words)


def read_step(reader, count, is_first):
    """A step's line: its first word, a dict of what its other words tell, and what stands at its end."""
    kind = reader.pick(["to", "by"])
    words = list(AXIS_WORDS[:count])
    word = reader.pick(words)
    words = words + [FEED, LEAST, STOP]
    told = {}
    while word in words:
        told[word] = True if word == STOP else reader.number()
        words = words[words.index(word) + 1:]
        word = next_word(reader, words, is_first and FEED not in told)
    return (kind, told, word)


def point_of(kind, told, ahead):
    """The point to which a step's line leads from the point ahead."""
    point = []
    for word, number in zip(AXIS_WORDS, ahead):
        if word not in told:
            point.append(number)
        else:
            point.append(told[word] if kind == "to" else added(number, told[word]))
    return tuple(point)


def read_program(reader):
    """What has the form of a program."""
    start = read_start(reader)
    point, feed, least = start, None, NOUGHT
    steps = []
    end = LINE_END
    while end == LINE_END:
        kind, told, end = read_step(reader, len(start), len(steps) == 0)
        point = point_of(kind, told, point)
        feed = told.get(FEED, feed)
        least = told.get(LEAST, least)
        steps.append((point, feed, least, STOP in told))
    return (start, tuple(steps))


def program_told(text):
    """The program that a text tells."""
    program = read_program(reader_of(text))
    check_program(program)
    return program


def axes_text(numbers):
    """The text of the numbers of axes, None of those that are not told."""
    return " ".join(f"{axis} {number_text(number)}" for axis, number in zip(AXES, numbers) if number is not None)


def to_text(ahead, point):
    """The text of a move by where it leads."""
    return "to " + axes_text([None if part == begin else part for begin, part in zip(ahead, point)])


def by_text(ahead, point):
    """The text of a move by how far it leads."""
    return "by " + axes_text([
        None if part == begin else subtracted(part, begin) for begin, part in zip(ahead, point)
    ])


def manner_text(step, feed, least):
    """What stands behind the axes of a step, told the feed and the least ahead."""
    told = ""
    if step[1] != feed:
        told = told + FEED + number_text(step[1])
    if step[2] != least:
        told = told + LEAST + number_text(step[2])
    return told + STOP if step[3] else told


def text_of(program, shortens):
    """The text of a program; if it shortens, with `by` in each line that it makes shorter."""
    start, steps = program
    lines = ["start " + axes_text(start)]
    point, feed, least = start, None, NOUGHT
    for step in steps:
        lead = to_text(point, step[0])
        other_lead = by_text(point, step[0])
        if shortens and len(other_lead) < len(lead):
            lead = other_lead
        lines.append(lead + manner_text(step, feed, least))
        point, feed, least, _ = step
    return LINE_END.join(lines)


def program_text(program):
    """The text of a program with `to` in each line."""
    check_program(program)
    return text_of(program, False)


def shortest(program):
    """The text of a program with `to` or `by` in each line, whichever makes it shorter."""
    check_program(program)
    return text_of(program, True)


def read_axis(reader, axis):
    """The line of an axis, without its end."""
    told = []
    for word in (f"{axis} speed ", " rate ", " jump "):
        reader.pick([word])
        told.append(reader.number())
    return tuple(told)


def read_limits(reader):
    """What has the form of limits."""
    told = []
    for axis in AXES:
        told.append(read_axis(reader, axis))
        if reader.is_done():
            break
        if len(told) < MOST_AXES:
            reader.pick([LINE_END])
    reader.finish()
    return tuple(told)


def check_axes(limits, count):
    """Raises InvalidLimits of what are no limits of so many axes."""
    index = axes_fault(limits, count)
    if index is not None:
        raise InvalidLimits(index)


def limits_told(text):
    """The limits that a text tells."""
    limits = read_limits(reader_of(text))
    check_axes(limits, len(limits))
    return limits


def limits_text(limits):
    """The text of limits of one to three axes."""
    if type(limits) is not tuple or not 1 <= len(limits) <= MOST_AXES:
        raise InvalidLimits(0)
    check_axes(limits, len(limits))
    return LINE_END.join([
        f"{axis} speed {number_text(speed)} rate {number_text(rate)} jump {number_text(jump)}"
        for axis, (speed, rate, jump) in zip(AXES, limits)
    ])


def read_course(reader):
    """What has the form of a course, perhaps without members."""
    told = []
    end = "" if reader.is_done() else LINE_END
    while end == LINE_END:
        way = reader.number()
        reader.pick([" "])
        told.append((way, reader.number()))
        end = reader.line_goes_on([])
    return tuple(told)


def course_told(text):
    """The members that the text of a course tells."""
    return read_course(reader_of(text))


def course_text(course):
    """The text of a course."""
    return LINE_END.join([f"{number_text(way)} {number_text(square)}" for way, square in course])
