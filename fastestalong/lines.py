"""Lines over the way, for the package itself: nothing is checked here.

A line is one or more members (way, square), each way greater than the one
ahead of it; between two neighbouring members it is straight.
"""

from fastestalong.exact import added, divided, is_less, multiplied, side, subtracted


def slope_of(begin, end):
    """By how much the square changes for each unit of way from one member to another."""
    return divided(subtracted(end[1], begin[1]), subtracted(end[0], begin[0]))


def between(begin, end, way):
    """The member at a way on the straight line from one member to the next."""
    change = multiplied(slope_of(begin, end), subtracted(way, begin[0]))
    return (way, added(begin[1], change))


def refined(line, ways):
    """The members of the line and those at these ways, which ascend from its first to its last one."""
    told = [line[0]]
    index = 0
    for begin, end in zip(line, line[1:]):
        while index < len(ways) and is_less(ways[index], end[0]):
            if is_less(told[-1][0], ways[index]):
                told.append(between(begin, end, ways[index]))
            index += 1
        told.append(end)
    return told


def stretch(line, low, high):
    """The line from one of its ways to another one that is not less."""
    members = refined(line, [low, high])
    return [member for member in members if not is_less(member[0], low) and not is_less(high, member[0])]


def square_on(line, way):
    """The square at one of the line's ways."""
    return stretch(line, way, way)[0][1]


def side_of_line(member, begin, end):
    """-1, 0 or 1 as a member is below, on or above the straight line from one member to the next."""
    # Without a division, after which numbers would be far longer.
    across = multiplied(subtracted(member[1], begin[1]), subtracted(end[0], begin[0]))
    return side(across, multiplied(subtracted(end[1], begin[1]), subtracted(member[0], begin[0])))


def straightened(line):
    """The line as a list, without members at which it does not bend."""
    told = []
    for member in line:
        if len(told) > 1 and side_of_line(told[-1], told[-2], member) == 0:
            told.pop()
        told.append(member)
    return told


def crossing(begin, end, low, high):
    """The member at which the straight lines from begin to end and from low to high cross.

    They do cross, at a way from low to high.
    """
    slope = slope_of(begin, end)
    other_slope = slope_of(low, high)
    apart = subtracted(between(begin, end, low[0])[1], low[1])
    along = divided(apart, subtracted(other_slope, slope))
    return (added(low[0], along), added(low[1], multiplied(other_slope, along)))


def led_to(begin, end, line):
    """The members behind begin of the straight line to end up to where it comes to the other line, then of that one.

    Both have the same first and last ways, and begin is not on the other line.
    """
    order = side_of_line(line[0], begin, end)
    for index in range(1, len(line)):
        other_order = side_of_line(line[index], begin, end)
        if other_order == 0:
            return line[index:]
        if other_order != order:
            return [crossing(begin, end, line[index - 1], line[index])] + line[index:]
    return [end]


def sides(line, other):
    """Of each way of two lines (way, -1, 0 or 1), as the first is below, at or above the other one there.

    Both have the same last way.
    """
    told = [(line[0][0], side(line[0][1], other[0][1]))]
    index = 1
    other_index = 1
    while index < len(line):
        member = line[index]
        other_member = other[other_index]
        order = side(member[0], other_member[0])
        if order <= 0:
            told.append((member[0], side_of_line(member, other[other_index - 1], other_member)))
        else:
            told.append((other_member[0], -side_of_line(other_member, line[index - 1], member)))
        if order <= 0:
            index += 1
        if order >= 0:
            other_index += 1
    return told


def bends(pieces, end):
    """The line of these pieces (way, square, slope), up to its last member, without members at which it does not bend.

    A piece goes up to the way of the one behind it, perhaps at once.
    """
    told = []
    slope = None
    for piece, behind in zip(pieces, pieces[1:] + [end]):
        if piece[0] != behind[0] and piece[2] != slope:
            told.append(piece[:2])
            slope = piece[2]
    told.append(end)
    return tuple(told)
