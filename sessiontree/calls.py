"""The calls that are handed in as one list of whole numbers, taken apart."""

NEW = 0
LOAD = 12

# For the calls from 0 to 16: how many numbers each has, and which of them have a text behind these.
NUMBERS_OF_CALL = (2, 0, 1, 0, 1, 0, 0, 1, 1, 2, 1, 0, 0, 0, 0, 0, 1)
WITH_TEXT = (1, 12, 13, 15)


# Its text is empty if the call has none.
class Call:
    def __init__(self, number, numbers, text):
        self.number = number
        self.numbers = numbers
        self.text = text


def read_calls(row):
    """The calls that stand in the row, one behind another."""
    calls = []
    at = 0
    while at < len(row):
        number = row[at]
        behind = at + 1 + NUMBERS_OF_CALL[number]
        numbers = row[at + 1:behind]
        text = []
        if number in WITH_TEXT:
            start = behind + 1
            behind = start + row[behind]
            text = row[start:behind]
        calls.append(Call(number, numbers, text))
        at = behind
    return calls
