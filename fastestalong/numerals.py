"""The texts of fractions, of values that are known to be such."""

from math import gcd

from fastestalong.exact import power, reduced

DIGITS = "0123456789"


def divisions(number, divisor):
    """How many times in sequence the divisor divides the number."""
    count = 0
    while number % divisor == 0:
        number = number // divisor
        count += 1
    return count


def decimal_places(bottom):
    """How many digits behind a point fractions of this bottom need, None if no number of them is enough."""
    twos = divisions(bottom, 2)
    fives = divisions(bottom, 5)
    if power(2, twos) * power(5, fives) != bottom:
        return None
    return max(twos, fives)


def whole_text(number):
    """The text of an integer from 0 on."""
    # Part by part, as Python's own text refuses some thousands of digits.
    parts = []
    while number >= 10 ** 64:
        parts.append(str(number % 10 ** 64).zfill(64))
        number = number // 10 ** 64
    parts.append(str(number))
    return "".join(parts[::-1])


def number_text(number):
    """The text of a fraction."""
    top, bottom = number
    sign = "-" if top < 0 else ""
    places = decimal_places(bottom)
    if places is None:
        return f"{sign}{whole_text(abs(top))}/{whole_text(bottom)}"
    digits = whole_text(abs(top) * power(10, places) // bottom)
    if places == 0:
        return sign + digits
    digits = digits.zfill(places + 1)
    return f"{sign}{digits[:-places]}.{digits[-places:]}"


def digits_end(text, begin):
    """The index behind all the digits that stand from an index on."""
    end = begin
    while end < len(text) and text[end] in DIGITS:
        end += 1
    return end


def number_fault(text):
    """The index of the first sign that goes on to no text of a fraction, None of such a text."""
    begin = 1 if text.startswith("-") else 0
    end = digits_end(text, begin)
    if end == begin:
        return begin
    is_nought = text[begin] == "0"
    if is_nought and end > begin + 1:
        return begin + 1
    if end == len(text):
        return end if text == "-0" else None
    if text[end] == ".":
        return decimal_fault(text, end + 1)
    if text[end] == "/" and not is_nought:
        return quotient_fault(text, end)
    return end


def decimal_fault(text, begin):
    """As number_fault, of a text whose point is right ahead of begin."""
    end = digits_end(text, begin)
    # A 0 at the end is a fault of the end alone: digits may come behind it.
    if end < len(text) or text[-1] in ".0":
        return end
    return None


def quotient_fault(text, stroke):
    """As number_fault, of a text whose stroke has this index and an integer ahead of it."""
    begin = stroke + 1
    end = digits_end(text, begin)
    if text[begin:begin + 1] == "0":
        return begin
    if end < len(text) or end == begin:
        return end
    bottom = whole_told(text[begin:])
    # Such a bottom is a fault of the end alone: with digits behind them any
    # digits are the beginning of a bottom that has no common divisor with the
    # top, and a prime divisor other than 2 and 5.
    if gcd(whole_told(text[:stroke]), bottom) > 1 or decimal_places(bottom) is not None:
        return end
    return None


def whole_told(text):
    """The integer of digits, perhaps with a sign ahead."""
    # Digit by digit, as Python's own reading refuses some thousands of digits.
    value = 0
    for digit in text.lstrip("-"):
        value = value * 10 + int(digit)
    return -value if text.startswith("-") else value


def number_told(text):
    """The fraction whose text this is."""
    top, stroke, bottom = text.partition("/")
    if stroke:
        return (whole_told(top), whole_told(bottom))
    ahead, _, behind = text.partition(".")
    return reduced(whole_told(ahead + behind), power(10, len(behind)))
