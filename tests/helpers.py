"""Calls written as words, and answers taken apart."""

from sessiontree.story import answers

MOST = 1000000000
MOST_TOLD = 1000000000000000000


def bytes_of(text):
    """The bytes of a text; a list of bytes stays as it is, for texts that no str can be."""
    return list(text.encode("ascii")) if isinstance(text, str) else list(text)


def new(cells, seed=0):
    return [0, cells, seed]


def say(text):
    row = bytes_of(text)
    return [1, len(row)] + row


def undo(k):
    return [2, k]


def goto(node):
    return [4, node]


def children(node):
    return [7, node]


def delta(node):
    return [8, node]


REDO = [3]
STATE = [5]
PATH = [6]


def row_of(calls):
    """The calls, one behind another, as answers wants them."""
    return [number for call in calls for number in call]


def apart(given):
    """The answers, a list for each call."""
    rows = []
    at = 0
    while at < len(given):
        behind = at + 1 + given[at]
        rows.append(given[at + 1:behind])
        at = behind
    return rows


def run(*calls):
    """The answers to the calls, a list for each."""
    rows = apart(answers(row_of(calls)))
    if len(rows) != len(calls):
        raise AssertionError(f"{len(calls)} calls, {len(rows)} answers")
    return rows


def last(*calls):
    """The answer to the last of the calls."""
    return run(*calls)[-1]
