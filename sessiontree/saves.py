"""Saves: the way to a node as a text, with a sum at its end."""

from sessiontree.sentences import read_sentence
from sessiontree.texts import LINE_END, SUM_MODULUS, bytes_of, numbers_behind, parts_between, sum_of
from sessiontree.tree import MOST_CELLS, MOST_SEED, may_begin


# What was read from a text; sum_is_right is apart, for a wrong sum is refused otherwise than what is no save.
class Save:
    def __init__(self, cells, seed, sentences, sum_is_right):
        self.cells = cells
        self.seed = seed
        self.sentences = sentences
        self.sum_is_right = sum_is_right


def save_of(cells, seed, sentences):
    """The bytes of the save of a way with these sentences."""
    text = bytes_of(f"story {cells} {seed}\n")
    for sentence in sentences:
        text.extend(sentence.text)
        text.append(LINE_END)
    total = sum_of(text)
    return text + bytes_of(f"sum {total}\n")


def read_save(text):
    """The save that the text is, whether or not its sum is right, None if it is none."""
    lines = parts_between(text, LINE_END)
    # What stands behind the last byte 10 is no line, and there must be nothing.
    behind = lines.pop()
    if len(behind) > 0 or len(lines) < 2:
        return None
    begin = numbers_behind("story", lines[0], [MOST_CELLS, MOST_SEED])
    # No sum is as great as the modulus, but a save that tells it is to be one with a wrong sum.
    end = numbers_behind("sum", lines[-1], [SUM_MODULUS])
    sentences = [read_sentence(line) for line in lines[1:-1]]
    if begin is None or end is None or None in sentences or not may_begin(begin[0], begin[1]):
        return None
    summed = text[:len(text) - len(lines[-1]) - 1]
    return Save(begin[0], begin[1], sentences, sum_of(summed) == end[0])
