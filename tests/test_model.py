"""Lines of calls from a fixed source of chance, held against the model."""

import random
import unittest

from helpers import (MOST, MOST_TOLD, PATH, REDO, SAVE, SCRIPT, STATE, children, delta, diff, goto, hold, load, merge, new,
                     prune, run, say, total, undo)
from model import Model, sum_of

# The share of each call in a line: a mixed one, one with wide trees, and one that goes on to 300 nodes and beyond.
MIXED = {"say": 30, "undo": 10, "redo": 8, "goto": 10, "look": 15, "merge": 10, "text": 10, "prune": 7}
WIDE = {"say": 25, "undo": 25, "redo": 5, "goto": 15, "look": 10, "merge": 15, "text": 1, "prune": 4}
FULL = {"say": 40, "undo": 4, "redo": 3, "goto": 10, "look": 10, "merge": 30, "text": 1, "prune": 2}


def some_value(chance):
    return chance.choice([0, 1, 2, 3, chance.randint(0, 50), chance.randint(0, MOST), MOST - 1, MOST])


def some_sentence(chance, cells):
    def cell():
        return chance.randint(0, cells if chance.random() < 0.1 else cells - 1)

    word = chance.choice(["set", "set", "add", "add", "take", "move", "swap", "roll"])
    numbers = [cell(), some_value(chance)]
    if word == "move":
        numbers.insert(1, cell())
    if word == "swap":
        numbers[1] = cell()
    return " ".join([word] + [str(number) for number in numbers])


def spoiled(chance, text):
    """The text with a byte changed, put in or left out."""
    place = chance.randrange(len(text) + 1)
    one = [chance.choice([32, 48, 49, 57, 10, 45, 97, 0, 255, chance.randrange(256)])]
    return text[:place] + (one if chance.random() < 0.7 else []) + text[place + chance.randint(0, 1):]


def some_text(chance, cells):
    text = list(some_sentence(chance, cells).encode())
    return spoiled(chance, text) if chance.random() < 0.15 else text


def some_save(chance, model):
    """A save of here, maybe with lines more or spoiled, and then mostly with its sum set right."""
    text = bytes(model.save()[1:])
    body = list(text[:text.rindex(b"sum ")])
    for more in range(chance.choice([0, 0, 1, 5])):
        body += list(some_sentence(chance, len(model.first[0])).encode()) + [10]
    if chance.random() < 0.3:
        body = spoiled(chance, body)
    right = sum_of(body)
    told = chance.choice([right] * 6 + [right + 1, 65521, 65522, 0])
    text = body + list(f"sum {told}\n".encode())
    return spoiled(chance, text) if chance.random() < 0.2 else text


def long_save(chance):
    """A save with nearly as many sentences as there may be nodes."""
    body = f"story 16 {chance.randint(0, MOST_TOLD)}\n"
    for sentence in range(chance.randint(200, 295)):
        body += f"set {chance.randrange(16)} {some_value(chance)}\n"
    return list(f"{body}sum {sum_of(body.encode())}\n".encode())


def some_script(chance, model):
    text = model.script()[1:]
    for more in range(chance.choice([0, 0, 1])):
        text += list(some_sentence(chance, len(model.first[0])).encode()) + [10]
    return spoiled(chance, text) if chance.random() < 0.5 else text


def some_node(chance, model):
    nodes = list(model.parents)
    return chance.choice([chance.choice(nodes)] * 10 + [0, nodes[-1], chance.randint(0, model.made + 1), -1, MOST_TOLD])


def some_look(chance, model):
    node = some_node(chance, model)
    return chance.choice([STATE, PATH, children(node), delta(node), diff(node, some_node(chance, model))])


def some_call_with_text(chance, model):
    made = [SAVE, SCRIPT, hold(some_script(chance, model)), hold(some_script(chance, model)),
            total([chance.randrange(256) for byte in range(chance.randint(0, 40))])]
    # A load makes the tree a single way, so there are few of them.
    return load(some_save(chance, model)) if chance.random() < 0.15 else chance.choice(made)


def some_call(chance, shares, model):
    kind = chance.choices(list(shares), list(shares.values()))[0]
    if kind == "say":
        return say(some_text(chance, len(model.first[0])))
    if kind == "undo":
        return undo(chance.choice([1, 1, 1, 2, 3, chance.randint(0, 12), -1]))
    if kind == "redo":
        return REDO
    if kind == "look":
        return some_look(chance, model)
    if kind == "text":
        return some_call_with_text(chance, model)
    acts = {"goto": goto, "merge": merge, "prune": prune}
    return acts[kind](some_node(chance, model))


def some_line(seed):
    """The calls of a line, and what the model answers to them."""
    chance = random.Random(seed)
    shares = chance.choice([MIXED, MIXED, WIDE, FULL])
    model = Model()
    calls = [new(chance.choice([1, 2, 3, 16, 16]), chance.choice([0, 1, MOST_TOLD, chance.randint(0, MOST_TOLD)]))]
    if shares == FULL:
        calls = [load(long_save(chance))]
    wanted = [model.answer(calls[0])]
    length = chance.randint(50, 400)
    numbers = len(calls[0])
    dear = 0
    while len(calls) < length:
        call = some_call(chance, shares, model)
        if chance.random() < 0.002:
            call = new(chance.randint(0, 17), chance.randint(-1, 5))
        if numbers + len(call) > 17000 or (call in (SAVE, SCRIPT) and dear == 40):
            continue
        numbers += len(call)
        dear += call in (SAVE, SCRIPT)
        calls.append(call)
        wanted.append(model.answer(call))
    return calls, wanted


class AgainstModel(unittest.TestCase):
    def test_lines(self):
        seen = {}
        for seed in range(200):
            calls, wanted = some_line(seed)
            self.assertEqual(run(*calls), wanted, f"line {seed}")
            for call, answer in zip(calls, wanted):
                seen[call[0], min(answer[0], 0)] = True
        # That the lines reach every refusal of the calls on trees and texts is what makes them worth their while.
        reached = [(9, -4), (10, 0), (10, -4), (10, -5), (10, -6), (12, 0), (12, -2), (12, -3), (12, -4), (16, 0), (16, -3),
                   (16, -4), (1, -5)]
        self.assertEqual([one for one in reached if one not in seen], [])


if __name__ == "__main__":
    unittest.main()
