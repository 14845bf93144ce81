"""Reading of texts, sign by sign: the index of an error is that of the first sign at which no such text goes on."""

from fastestalong.errors import InvalidText
from fastestalong.numerals import digits_end, number_fault, number_told

LINE_END = "\n"
NUMBER_SIGNS = "0123456789-./"
MOST_DIGITS = 3


def common(text, at, word):
    """The index of the first sign, from an index of the text on, at which a word does not go on."""
    for index, sign in enumerate(word):
        if text[at + index:at + index + 1] != sign:
            return at + index
    return at + len(word)


class Reader:
    """A text, and the index up to which it is read."""

    def __init__(self, text, at):
        self.text = text
        self.at = at

    def is_done(self):
        """Whether the text is read whole."""
        return self.at == len(self.text)

    def finish(self):
        """Raises InvalidText unless the text is read whole."""
        if not self.is_done():
            raise InvalidText(self.at)

    def pick(self, words):
        """Reads the one of some words that stands here; none of them is the beginning of another one."""
        ends = [common(self.text, self.at, word) for word in words]
        for word, end in zip(words, ends):
            if end == self.at + len(word):
                self.at = end
                return word
        raise InvalidText(max(ends))

    def line_goes_on(self, words):
        """Reads one of some words, or the end of the line; "" at the end of the text."""
        return "" if self.is_done() else self.pick(words + [LINE_END])

    def number(self):
        """Reads the text of a fraction; it goes as far as its signs go."""
        end = self.at
        while end < len(self.text) and self.text[end] in NUMBER_SIGNS:
            end += 1
        text = self.text[self.at:end]
        fault = number_fault(text)
        if fault is not None:
            raise InvalidText(self.at + fault)
        self.at = end
        return number_told(text)

    def integer(self):
        """Reads an integer of one to three digits, without a needless 0 ahead."""
        end = digits_end(self.text, self.at)
        digits = self.text[self.at:end]
        most = 1 if digits.startswith("0") else MOST_DIGITS
        if digits == "" or len(digits) > most:
            raise InvalidText(self.at + min(len(digits), most))
        self.at = end
        return int(digits)
