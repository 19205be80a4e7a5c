"""Sentences: how one is read from a text, what it makes of a world, and what it tells.

A world is one list: the values of its cells, and its chance behind them. So the chance's place in it
is how many cells there are, which is also the number that the answers give it among what changed.
"""

from sessiontree.texts import BLANK, number_in, parts_between

MOST = 1000000000
CHANCE_FACTOR = 6364136223846793005
CHANCE_STEP = 1442695040888963407
CHANCES = 18446744073709551616
CHANCE_CUT = 8589934592

HOW_MANY_NUMBERS = {"set": 2, "add": 2, "take": 2, "move": 3, "swap": 2, "roll": 2}
HOW_MANY_CELLS = {"set": 1, "add": 1, "take": 1, "move": 2, "swap": 2, "roll": 1}


# named are those of its numbers that name cells: what it tells, and what must be there, goes by these.
class Sentence:
    def __init__(self, word, numbers):
        self.word = word
        self.numbers = numbers
        self.named = numbers[:HOW_MANY_CELLS[word]]


def word_in(part):
    """The sentence's word that the part is, None if it is none."""
    for word in HOW_MANY_NUMBERS:
        if [ord(sign) for sign in word] == part:
            return word
    return None


def read_sentence(text):
    """The sentence that the text is, None if it is none."""
    parts = parts_between(text, BLANK)
    word = word_in(parts[0])
    if word is None or len(parts) != 1 + HOW_MANY_NUMBERS[word]:
        return None
    numbers = [number_in(part, MOST) for part in parts[1:]]
    if None in numbers:
        return None
    return Sentence(word, numbers)


def set_cell(world, numbers):
    world[numbers[0]] = numbers[1]
    return True


def add_to_cell(world, numbers):
    cell = numbers[0]
    world[cell] += numbers[1]
    return world[cell] <= MOST


def take_from_cell(world, numbers):
    cell = numbers[0]
    world[cell] -= numbers[1]
    return world[cell] >= 0


def move_between_cells(world, numbers):
    taken_from = numbers[0]
    added_to = numbers[1]
    world[taken_from] -= numbers[2]
    world[added_to] += numbers[2]
    return taken_from != added_to and world[taken_from] >= 0 and world[added_to] <= MOST


def swap_cells(world, numbers):
    value = world[numbers[0]]
    world[numbers[0]] = world[numbers[1]]
    world[numbers[1]] = value
    return True


def roll_cell(world, numbers):
    if numbers[1] == 0:
        return False
    world[-1] = (world[-1] * CHANCE_FACTOR + CHANCE_STEP) % CHANCES
    world[numbers[0]] = (world[-1] // CHANCE_CUT) % numbers[1]
    return True


# Each changes the world that it is given, and answers whether the story lets it.
EFFECTS = {
    "set": set_cell,
    "add": add_to_cell,
    "take": take_from_cell,
    "move": move_between_cells,
    "swap": swap_cells,
    "roll": roll_cell,
}


def world_behind(sentence, world):
    """The world that the sentence brings from this one, None if the story refuses it."""
    cells = len(world) - 1
    for cell in sentence.named:
        if cell >= cells:
            return None
    # An effect may find only at its end that it is refused, so it works on a copy.
    behind = list(world)
    effect = EFFECTS[sentence.word]
    if not effect(behind, sentence.numbers):
        return None
    return behind


def told_by(sentence, world):
    """What the sentence tells where this is the world behind it."""
    return [world[cell] for cell in sentence.named]


def changes_between(before, behind):
    """For each place where the worlds differ, ascending: the place, its value before, its value behind."""
    changes = []
    for place, value in enumerate(before):
        if value != behind[place]:
            changes.append((place, value, behind[place]))
    return changes
