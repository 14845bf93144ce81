"""What leads a tool that runs along a program, for the package itself: nothing is checked here."""

from fastestalong.courses import bounds_at_joints, joint_squares, move_pieces
from fastestalong.exact import NOUGHT, added, divided, is_less, multiplied, opposite, side, subtracted, twice
from fastestalong.lines import bends, led_to, stretch
from fastestalong.moves import axis_tops, capped, lengths, pulls, swings, turn_caps, ways


class Track:
    """The moves of a program under limits, whatever factor the feeds are taken times."""

    def __init__(self, program, limits):
        self.joints = ways(program)
        self.spans = lengths(program)
        self.slopes = [twice(pull) for pull in pulls(program, limits)]
        self.changes = swings(program, limits)
        self.turns = turn_caps(program, limits)
        self.tops = axis_tops(program, limits)
        self.feeds = [step[1] for step in program[1]]

    def moves_from(self, way):
        """The indexes of the moves that end behind a way."""
        first = len([joint for joint in self.joints[1:] if not is_less(way, joint)])
        return list(range(first, len(self.spans)))

    def led_on(self, member, slope, move):
        """The member at the end of a move of a line with this slope from a member in the move on."""
        end = self.joints[move + 1]
        return (end, added(member[1], multiplied(slope, subtracted(end, member[0]))))


class Goal:
    """The greatest course of a track with each feed a factor times as great, worked out move by move."""

    def __init__(self, track, factor):
        self.track = track
        self.tops = capped([multiplied(feed, factor) for feed in track.feeds], track.tops)
        self.levels = joint_squares(bounds_at_joints(self.tops, track.turns), track.changes)

    def line_in(self, move):
        """The line of the course in a move."""
        track = self.track
        begin = (track.joints[move], self.levels[move])
        end = (track.joints[move + 1], self.levels[move + 1])
        return bends(move_pieces(begin, track.spans[move], end[1], self.tops[move], track.slopes[move]), end)

    def followed_in(self, move, member):
        """The members behind one in a move, up to its end, of a tool that comes to the course as fast as may be."""
        track = self.track
        line = stretch(self.line_in(move), member[0], track.joints[move + 1])
        order = side(member[1], line[0][1])
        if order == 0:
            return line[1:]
        slope = track.slopes[move] if order < 0 else opposite(track.slopes[move])
        return led_to(member, track.led_on(member, slope, move), line)

    def followed(self, member, way):
        """The line from a member on of a tool that comes to the course as fast as may be: up to a way or beyond it."""
        told = [member]
        for move in self.track.moves_from(member[0]):
            if not is_less(told[-1][0], way):
                break
            told.extend(self.followed_in(move, told[-1]))
        return told


def halted(track, member):
    """The line from a member on of a tool that comes to stand as fast as may be."""
    told = [member]
    for move in track.moves_from(member[0]):
        way, square = told[-1]
        if square == NOUGHT:
            break
        slope = track.slopes[move]
        end = track.led_on(told[-1], opposite(slope), move)
        told.append(end if end[1][0] >= 0 else (added(way, divided(square, slope)), NOUGHT))
    return told
