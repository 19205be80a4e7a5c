"""Texts as lists of bytes: their parts, the numbers in them in decimal, and the sum of their bytes."""

LINE_END = 10
BLANK = 32
DIGIT_ZERO = 48
DIGIT_NINE = 57
SUM_MODULUS = 65521


def bytes_of(signs):
    """The bytes of a text of Python's own."""
    return [ord(sign) for sign in signs]


def parts_between(text, byte):
    """The parts of the text that stand before, between and behind the places of the byte."""
    parts = [[]]
    for one in text:
        if one == byte:
            parts.append([])
        else:
            parts[-1].append(one)
    return parts


def number_in(part, most):
    """The number from 0 to most that the part is in decimal, None if it is no such number."""
    if len(part) == 0:
        return None
    if part[0] == DIGIT_ZERO and len(part) > 1:
        return None
    number = 0
    for digit in part:
        if digit < DIGIT_ZERO or digit > DIGIT_NINE:
            return None
        number = number * 10 + digit - DIGIT_ZERO
        # A long row of digits would make each further step dearer, and none can bring it back.
        if number > most:
            return None
    return number


def numbers_behind(word, text, mosts):
    """The numbers behind the word, if the text is the word and for each of mosts a number up to it; else None."""
    parts = parts_between(text, BLANK)
    if parts[0] != bytes_of(word) or len(parts) != 1 + len(mosts):
        return None
    numbers = [number_in(part, most) for part, most in zip(parts[1:], mosts)]
    if None in numbers:
        return None
    return numbers


def sum_of(text):
    """The sum of the text's bytes, each by its place, so that two that change places show too."""
    return sum([place * byte for place, byte in enumerate(text, start=1)]) % SUM_MODULUS
