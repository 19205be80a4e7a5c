"""Texts as lists of bytes: the parts between blanks, and numbers in decimal."""

BLANK = 32
DIGIT_ZERO = 48
DIGIT_NINE = 57


def parts_between(text, byte):
    """The parts of the text that stand before, between and behind the places of the byte."""
    parts = [[]]
    for one in text:
        if one == byte:
            parts.append([])
        else:
            parts[-1].append(one)
    return parts


def number_in(part, most):
    """The number from 0 to most that the part is in decimal, None if it is no such number."""
    if len(part) == 0:
        return None
    if part[0] == DIGIT_ZERO and len(part) > 1:
        return None
    number = 0
    for digit in part:
        if digit < DIGIT_ZERO or digit > DIGIT_NINE:
            return None
        number = number * 10 + digit - DIGIT_ZERO
        # A long row of digits would make each further step dearer, and none can bring it back.
        if number > most:
            return None
    return number
