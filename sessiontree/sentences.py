"""Sentences: how one is read from a text, what it makes of a world, and what it tells.

A world is one list: the values of its cells, and its chance behind them. So the chance's place in it
is how many cells there are, which is also the number that the answers give it among what changed.
"""

from sessiontree.texts import numbers_behind

MOST = 1000000000
CHANCE_FACTOR = 6364136223846793005
CHANCE_STEP = 1442695040888963407
CHANCES = 18446744073709551616
CHANCE_CUT = 8589934592

HOW_MANY_NUMBERS = {"set": 2, "add": 2, "take": 2, "move": 3, "swap": 2, "roll": 2}
HOW_MANY_CELLS = {"set": 1, "add": 1, "take": 1, "move": 2, "swap": 2, "roll": 1}


# named are those of its numbers that name cells: what it tells, and what must be there, goes by these.
# A number is written in one way alone, so the text that was read is also the one to be saved.
class Sentence:
    def __init__(self, text, word, numbers):
        self.text = text
        self.word = word
        self.numbers = numbers
        self.named = numbers[:HOW_MANY_CELLS[word]]


def read_sentence(text):
    """The sentence that the text is, None if it is none."""
    for word in HOW_MANY_NUMBERS:
        numbers = numbers_behind(word, text, [MOST] * HOW_MANY_NUMBERS[word])
        if numbers is not None:
            return Sentence(text, word, numbers)
    return None


def set_cell(world, numbers):
    world[numbers[0]] = numbers[1]
    return True


def add_to_cell(world, numbers):
    cell = numbers[0]
    world[cell] += numbers[1]
    return world[cell] <= MOST


def take_from_cell(world, numbers):
    cell = numbers[0]
    world[cell] -= numbers[1]
    return world[cell] >= 0


def move_between_cells(world, numbers):
    taken_from = numbers[0]
    added_to = numbers[1]
    world[taken_from] -= numbers[2]
    world[added_to] += numbers[2]
    return taken_from != added_to and world[taken_from] >= 0 and world[added_to] <= MOST


def swap_cells(world, numbers):
    value = world[numbers[0]]
    world[numbers[0]] = world[numbers[1]]
    world[numbers[1]] = value
    return True


def roll_cell(world, numbers):
    if numbers[1] == 0:
        return False
    world[-1] = (world[-1] * CHANCE_FACTOR + CHANCE_STEP) % CHANCES
    world[numbers[0]] = (world[-1] // CHANCE_CUT) % numbers[1]
    return True


# Each changes the world that it is given, and answers whether the story lets it.
EFFECTS = {
    "set": set_cell,
    "add": add_to_cell,
    "take": take_from_cell,
    "move": move_between_cells,
    "swap": swap_cells,
    "roll": roll_cell,
}


def world_behind(sentence, world):
    """The world that the sentence brings from this one, None if the story refuses it."""
    cells = len(world) - 1
    for cell in sentence.named:
        if cell >= cells:
            return None
    # An effect may find only at its end that it is refused, so it works on a copy.
    behind = list(world)
    effect = EFFECTS[sentence.word]
    if not effect(behind, sentence.numbers):
        return None
    return behind


def world_behind_all(sentences, world):
    """The world that the sentences bring from this one in order, None if the story refuses one of them."""
    for sentence in sentences:
        world = world_behind(sentence, world)
        if world is None:
            return None
    return world


def told_by(sentence, world):
    """What the sentence tells where this is the world behind it."""
    return [world[cell] for cell in sentence.named]


def changes_between(before, behind):
    """For each place where the worlds differ, ascending: the place, its value before, its value behind."""
    changes = []
    for place, value in enumerate(before):
        if value != behind[place]:
            changes.append((place, value, behind[place]))
    return changes


def looked_at_by(sentence, chance):
    """The places of a world that the sentence looks at, where chance is the place of the chance."""
    if sentence.word == "set":
        return []
    if sentence.word == "roll":
        return [chance]
    return sentence.named


def changed_by(sentence, chance):
    """The places of a world that the sentence may change, where chance is the place of the chance."""
    if sentence.word == "roll":
        return sentence.named + [chance]
    return sentence.named


def ways_touch(added, passed, chance):
    """Whether an added sentence may change what a passed one looks at or may change, or looks at what it may change."""
    looked_at = {}
    changed = {}
    for sentence in passed:
        for place in looked_at_by(sentence, chance):
            looked_at[place] = True
        for place in changed_by(sentence, chance):
            changed[place] = True
    for sentence in added:
        for place in looked_at_by(sentence, chance):
            if place in changed:
                return True
        for place in changed_by(sentence, chance):
            if place in looked_at or place in changed:
                return True
    return False
