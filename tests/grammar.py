"""The forms of the texts of points [18] and [20], told as grammars, and how far a text goes on as one of them tells.

A grammar is a string, NUMBER, or a tuple: "seq" and grammars one behind the
other, "alt" and grammars of which one stands there, "many" and a grammar that
stands there as often as one likes, also not at all.
"""

import itertools
import re

from fastestalong.errors import InvalidText
from fastestalong.fractions import fraction_told

NUMBER = object()


def seq(*parts):
    return ("seq",) + parts


def alt(*parts):
    return ("alt",) + parts


def many(part):
    return ("many", part)


def perhaps(*parts):
    return alt("", seq(*parts))


class Net:
    """A grammar as a net of states: what goes from each of them to which other one."""

    def __init__(self, grammar):
        self.edges = [[]]
        self.end = self.build(grammar, 0)

    def new(self):
        self.edges.append([])
        return len(self.edges) - 1

    def build(self, grammar, state):
        """Builds the grammar from a state on, and tells the state behind it."""
        if grammar is NUMBER or isinstance(grammar, str):
            for sign in [NUMBER] if grammar is NUMBER else grammar:
                behind = self.new()
                self.edges[state].append((sign, behind))
                state = behind
            return state
        if grammar[0] == "seq":
            for part in grammar[1:]:
                state = self.build(part, state)
            return state
        if grammar[0] == "many":
            begin = self.new()
            self.edges[state].append(("", begin))
            self.edges[self.build(grammar[1], begin)].append(("", begin))
            return begin
        end = self.new()
        for part in grammar[1:]:
            begin = self.new()
            self.edges[state].append(("", begin))
            self.edges[self.build(part, begin)].append(("", end))
        return end

    def closed(self, states):
        told, left = set(), list(states)
        while left:
            state = left.pop()
            if state not in told:
                told.add(state)
                left += [behind for sign, behind in self.edges[state] if sign == ""]
        return told

    def fault(self, text):
        """The index of the first sign at which no text of the grammar goes on, None of such a text."""
        reached, far = {0: {0}}, 0
        for at in range(len(text) + 1):
            for state in self.closed(reached.get(at, ())):
                far = max(far, at)
                for sign, behind in self.edges[state]:
                    if sign is NUMBER:
                        run = re.match(r"[-./0-9]*", text[at:]).group()
                        fault = number_fault(run)
                        if fault is None:
                            reached.setdefault(at + len(run), set()).add(behind)
                        else:
                            far = max(far, at + fault)
                    elif sign != "" and text[at:at + 1] == sign:
                        reached.setdefault(at + 1, set()).add(behind)
        return None if self.end in self.closed(reached.get(len(text), ())) else far


def number_fault(run):
    try:
        fraction_told(run)
    except InvalidText as fault:
        return fault.index
    return None


def axes(count):
    """One or more of so many axes, each with a number, in their sequence."""
    words = [seq(f" {axis} ", NUMBER) for axis in "xyz"[:count]]
    subsets = [subset for size in range(1, count + 1) for subset in itertools.combinations(words, size)]
    return alt(*[seq(*subset) for subset in subsets])


def program_of(count):
    start = seq("start", *[seq(f" {axis} ", NUMBER) for axis in "xyz"[:count]])
    lead = seq(alt("to", "by"), axes(count))
    rest = seq(perhaps(" least ", NUMBER), perhaps(" stop"))
    first = seq(lead, " feed ", NUMBER, rest)
    return seq(start, "\n", first, many(seq("\n", lead, perhaps(" feed ", NUMBER), rest)))


def limits_of(count):
    rows = [seq(f"{axis} speed ", NUMBER, " rate ", NUMBER, " jump ", NUMBER) for axis in "xyz"[:count]]
    return seq(rows[0], *[seq("\n", row) for row in rows[1:]])


PROGRAM = alt(program_of(1), program_of(2), program_of(3))
LIMITS = alt(limits_of(1), limits_of(2), limits_of(3))
ROW = seq(NUMBER, " ", NUMBER)
COURSE = perhaps(ROW, many(seq("\n", ROW)))
DIGIT = alt(*"0123456789")
INTEGER = alt("0", seq(alt(*"123456789"), alt("", DIGIT, seq(DIGIT, DIGIT))))
ENTRY = alt(seq("feed ", NUMBER, " ", NUMBER), seq("hold ", NUMBER), seq("on ", NUMBER))
COMMAND = alt(
    seq("program\n", PROGRAM), seq("limits\n", LIMITS), seq("go ", NUMBER), seq("feed ", NUMBER), "hold", "on", "here",
    "stand", "done", "rest", "journal", seq("again ", NUMBER, many(seq("\n", ENTRY))), "text", "greatest", "bar",
    seq("time ", INTEGER), seq("profile ", INTEGER, " ", INTEGER),
)


def spoilt(chance, text):
    """The text with one to three signs or pieces otherwise."""
    for _ in range(chance.choice((1, 1, 1, 2, 3))):
        text = spoilt_once(chance, text)
    return text


def spoilt_once(chance, text):
    at = chance.randint(0, len(text))
    signs = "xyzabdefgilmopst 0123456789-./\n"
    choice = chance.randrange(9)
    if choice == 0:
        return text[:at]
    if choice == 1:
        return text[:at] + chance.choice(signs) + text[at:]
    if choice == 2:
        return text[:at] + text[at + 1:]
    if choice == 3:
        return text[:at] + chance.choice(signs) + text[at + 1:]
    if choice == 4:
        return text + chance.choice(("\n", " ", "0", ".", " stop", "\nto x 1", "\r"))
    if choice == 5:
        pieces = re.split(r"([ \n])", text)
        one, other = chance.choice(range(0, len(pieces), 2)), chance.choice(range(0, len(pieces), 2))
        pieces[one], pieces[other] = pieces[other], pieces[one]
        return "".join(pieces)
    if choice == 6:
        runs = list(re.finditer(r"[-./0-9]+", text))
        if not runs:
            return text + "1"
        run = chance.choice(runs)
        wrong = ("3/4", "-0", "01", "1.50", "2/4", "0/3", "1/", ".5", ".", "-", "/", "", "--1", "1.0", "1..2", "-1/3/", "1/03")
        return text[:run.start()] + chance.choice(wrong) + text[run.end():]
    lines = text.split("\n")
    one, other = chance.randrange(len(lines)), chance.randrange(len(lines))
    if choice == 7:
        lines[one], lines[other] = lines[other], lines[one]
    elif chance.random() < 0.5:
        del lines[one]
    else:
        lines.insert(one, lines[other])
    return "\n".join(lines)
