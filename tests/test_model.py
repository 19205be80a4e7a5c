"""Lines of calls from a fixed source of chance, held against the model."""

import random
import unittest

from helpers import MOST, MOST_TOLD, PATH, REDO, STATE, children, delta, goto, new, run, say, undo
from model import Model


def some_value(chance):
    return chance.choice([0, 1, 2, 3, chance.randint(0, 50), chance.randint(0, MOST), MOST - 1, MOST])


def some_sentence(chance, cells):
    def cell():
        return chance.randint(0, cells if chance.random() < 0.1 else cells - 1)

    word = chance.choice(["set", "add", "take", "move", "swap", "roll"])
    numbers = [cell(), some_value(chance)]
    if word == "move":
        numbers.insert(1, cell())
    if word == "swap":
        numbers[1] = cell()
    return " ".join([word] + [str(number) for number in numbers])


def some_text(chance, cells):
    text = list(some_sentence(chance, cells).encode())
    if chance.random() < 0.15:
        place = chance.randrange(len(text) + 1)
        one = [chance.choice([32, 48, 49, 57, 10, 45, 97, 0, 255, chance.randrange(256)])]
        text[place:place + chance.randint(0, 1)] = one if chance.random() < 0.7 else []
    return text


def some_node(chance, made):
    return chance.choice([0, 1, chance.randint(0, made + 1), chance.randint(0, made + 1), -1, MOST_TOLD])


def some_call(chance, cells, made):
    kind = chance.random()
    if kind < 0.45:
        return say(some_text(chance, cells))
    if kind < 0.6:
        return undo(chance.choice([1, 1, 1, 2, 3, chance.randint(0, 12), -1]))
    if kind < 0.7:
        return REDO
    if kind < 0.8:
        return goto(some_node(chance, made))
    return chance.choice([STATE, PATH, children(some_node(chance, made)), delta(some_node(chance, made))])


def some_line(seed):
    chance = random.Random(seed)
    cells = chance.choice([1, 2, 3, 16])
    calls = [new(cells, chance.choice([0, 1, MOST_TOLD, chance.randint(0, MOST_TOLD)]))]
    length = chance.randint(50, 400)
    while len(calls) < length:
        calls.append(some_call(chance, cells, len(calls) // 3))
    if chance.random() < 0.3:
        calls[chance.randrange(len(calls))] = new(chance.randint(0, 17), chance.randint(-1, 5))
    return calls


class AgainstModel(unittest.TestCase):
    def test_lines(self):
        for seed in range(150):
            calls = some_line(seed)
            model = Model()
            self.assertEqual(run(*calls), [model.answer(call) for call in calls], f"line {seed}")


if __name__ == "__main__":
    unittest.main()
