"""Calls written as words, and answers taken apart."""

from sessiontree.story import answers

MOST = 1000000000
MOST_TOLD = 1000000000000000000


def bytes_of(text):
    """The bytes of a text; a list of bytes stays as it is, for texts that no str can be."""
    return list(text.encode("ascii")) if isinstance(text, str) else list(text)


def with_text(number, text):
    row = bytes_of(text)
    return [number, len(row)] + row


def new(cells, seed=0):
    return [0, cells, seed]


def say(text):
    return with_text(1, text)


def undo(k):
    return [2, k]


def goto(node):
    return [4, node]


def children(node):
    return [7, node]


def delta(node):
    return [8, node]


def diff(a, b):
    return [9, a, b]


def merge(node):
    return [10, node]


def load(text):
    return with_text(12, text)


def total(text):
    return with_text(13, text)


def hold(text):
    return with_text(15, text)


def prune(node):
    return [16, node]


REDO = [3]
STATE = [5]
PATH = [6]
SAVE = [11]
SCRIPT = [14]


def sum_by_hand(text):
    """The sum of the bytes of a text, added up backwards."""
    row = bytes_of(text)
    result = 0
    for place in range(len(row), 0, -1):
        result = (result + place * row[place - 1]) % 65521
    return result


def summed(body):
    """The body of a save with its right sum behind it."""
    return f"{body}sum {sum_by_hand(body)}\n"


def text_of(answer):
    """The text that an answer tells behind its 0."""
    if answer[0] != 0:
        raise AssertionError(f"refused with {answer}")
    return bytes(answer[1:]).decode("ascii")


def row_of(calls):
    """The calls, one behind another, as answers wants them."""
    return [number for call in calls for number in call]


def apart(given):
    """The answers, a list for each call."""
    rows = []
    at = 0
    while at < len(given):
        behind = at + 1 + given[at]
        rows.append(given[at + 1:behind])
        at = behind
    return rows


def run(*calls):
    """The answers to the calls, a list for each."""
    rows = apart(answers(row_of(calls)))
    if len(rows) != len(calls):
        raise AssertionError(f"{len(calls)} calls, {len(rows)} answers")
    return rows


def last(*calls):
    """The answer to the last of the calls."""
    return run(*calls)[-1]
