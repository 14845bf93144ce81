"""What binds the greatest course where: feeds, speeds, and the rates of axes."""

from fastestalong.courses import greatest
from fastestalong.errors import InvalidIndex
from fastestalong.exact import NOUGHT, absolute, divided, is_less, smallest, squared
from fastestalong.fractions import is_integer
from fastestalong.lines import refined
from fastestalong.moves import caps, directions, turn_caps, ways
from fastestalong.programs import check_limits


class Piece:
    """A piece of a greatest course: its two ends, and the index of the move in which it is."""

    def __init__(self, begin, end, move):
        self.low = begin[0]
        self.high = end[0]
        self.move = move
        self.begin_square = begin[1]
        self.end_square = end[1]

    def is_flat(self):
        """Whether its square is a cap."""
        return self.begin_square == self.end_square

    def rises(self):
        """Whether its square rises."""
        return is_less(self.begin_square, self.end_square)


def pieces_of(line, joints):
    """The pieces of a line that has a member at each joint."""
    told = []
    move = 0
    for begin, end in zip(line, line[1:]):
        if begin[0] == joints[move + 1]:
            move += 1
        told.append(Piece(begin, end, move))
    return told


def touched_ways(pieces, along, turns):
    """The ends of pieces at which the course is a cap of a move or a turn cap, ascending."""
    told = [NOUGHT]
    for piece, behind in zip(pieces, pieces[1:]):
        bounds = [along[piece.move], along[behind.move]]
        if behind.move != piece.move:
            bounds.append(turns[behind.move])
        if piece.end_square in bounds:
            told.append(piece.high)
    return told + [pieces[-1].high]


def source_of(piece, touched):
    """The source of a piece that rises or falls, told all ends of pieces that the course touches."""
    if piece.rises():
        return [way for way in touched if not is_less(piece.low, way)][-1]
    return [way for way in touched if not is_less(way, piece.high)][0]


def givers(direction, bounds):
    """The axes that let the least along a direction, told what each of them lets by itself."""
    told = {axis: divided(bounds[axis], absolute(part)) for axis, part in enumerate(direction) if part != NOUGHT}
    least = smallest(list(told.values()))
    return [axis for axis in told if told[axis] == least]


class Bounds:
    """What binds the greatest course of a program under limits."""

    def __init__(self, program, limits):
        joints = ways(program)
        self.joints = joints
        self.pieces = pieces_of(refined(greatest(program, limits), joints), joints)
        self.touched = touched_ways(self.pieces, caps(program, limits), turn_caps(program, limits))
        self.feeds = [squared(step[1]) for step in program[1]]
        speeds = [axis[0] for axis in limits]
        rates = [axis[1] for axis in limits]
        self.fast = [givers(direction, speeds) for direction in directions(program)]
        self.strong = [givers(direction, rates) for direction in directions(program)]

    def told_of(self, piece):
        """What binding tells of a piece."""
        if piece.is_flat():
            if piece.begin_square == self.feeds[piece.move]:
                return (piece.low, piece.high, "feed", None, None)
            return (piece.low, piece.high, "speed", self.fast[piece.move][0], None)
        word = "up" if piece.rises() else "down"
        return (piece.low, piece.high, word, self.strong[piece.move][0], source_of(piece, self.touched))

    def hangs_on(self, piece, axis):
        """Whether a piece rises or falls by a part, down from its source, of a move whose pull the axis gives alone."""
        if piece.is_flat():
            return False
        source = source_of(piece, self.touched)
        low, high = (source, piece.high) if piece.rises() else (piece.low, source)
        for begin, end, axes in zip(self.joints, self.joints[1:], self.strong):
            if axes == [axis] and is_less(begin, high) and is_less(low, end):
                return True
        return False


def binding(program, limits):
    """Of each piece of the greatest course (low, high, word, axis, source), ascending."""
    check_limits(program, limits)
    bounds = Bounds(program, limits)
    return tuple(bounds.told_of(piece) for piece in bounds.pieces)


def gains(program, limits, axis):
    """The way from which on the greatest course is greater with a greater rate of an axis, None without one."""
    check_limits(program, limits)
    if not is_integer(axis) or not 0 <= axis < len(limits):
        raise InvalidIndex("this is no index of an axis")
    bounds = Bounds(program, limits)
    for piece in bounds.pieces:
        if bounds.hangs_on(piece, axis):
            return piece.low
    return None
