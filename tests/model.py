"""The story once more, told otherwise: every node's world is worked out from the root each time it is asked for."""

import re

MOST = 10 ** 9
NUMBER = rb"(0|[1-9][0-9]{0,9})"
FORMS = {
    "set": re.compile(rb"set " + NUMBER + rb" " + NUMBER),
    "add": re.compile(rb"add " + NUMBER + rb" " + NUMBER),
    "take": re.compile(rb"take " + NUMBER + rb" " + NUMBER),
    "move": re.compile(rb"move " + NUMBER + rb" " + NUMBER + rb" " + NUMBER),
    "swap": re.compile(rb"swap " + NUMBER + rb" " + NUMBER),
    "roll": re.compile(rb"roll " + NUMBER + rb" " + NUMBER),
}


def read(text):
    for word, form in FORMS.items():
        found = form.fullmatch(bytes(text))
        if found:
            numbers = [int(one) for one in found.groups()]
            return (word, numbers) if max(numbers) <= MOST else None
    return None


def names(sentence):
    word, numbers = sentence
    return numbers[:2] if word in ("move", "swap") else numbers[:1]


def brings(sentence, cells, chance):
    """The cells and the chance behind the sentence, or None."""
    word, numbers = sentence
    if any(cell not in cells for cell in names(sentence)):
        return None
    i, v = numbers[0], numbers[-1]
    if word == "set":
        cells = {**cells, i: v}
    elif word == "add":
        cells = {**cells, i: cells[i] + v}
    elif word == "take":
        cells = {**cells, i: cells[i] - v}
    elif word == "move":
        if i == numbers[1]:
            return None
        cells = {**cells, i: cells[i] - v, numbers[1]: cells[numbers[1]] + v}
    elif word == "swap":
        cells = {**cells, i: cells[v], v: cells[i]}
    else:
        if v == 0:
            return None
        chance = (chance * 6364136223846793005 + 1442695040888963407) & (2 ** 64 - 1)
        cells = {**cells, i: (chance >> 33) % v}
    return (cells, chance) if all(0 <= value <= MOST for value in cells.values()) else None


class Model:
    def __init__(self):
        self.first = None

    def way(self, node):
        return self.way(self.parents[node]) + [node] if node else []

    def world(self, node):
        if node == 0:
            return self.first
        return brings(self.sentences[node], *self.world(self.parents[node]))

    def enter(self, node):
        self.visits[self.parents[node]] = node
        self.here = node

    def new(self, cells, seed):
        if not (1 <= cells <= 16 and 0 <= seed <= 10 ** 18):
            return [-1]
        self.first = ({cell: 0 for cell in range(cells)}, seed)
        self.parents, self.sentences, self.visits, self.here = {0: None}, {}, {}, 0
        return [0]

    def say(self, *text):
        sentence = read(text)
        if sentence is None:
            return [-1]
        world = brings(sentence, *self.world(self.here))
        if world is None:
            return [-4]
        node = len(self.parents)
        if node > 300:
            return [-5]
        self.parents[node], self.sentences[node] = self.here, sentence
        self.enter(node)
        return [0, node] + [world[0][cell] for cell in names(sentence)]

    def undo(self, k):
        way = [0] + self.way(self.here)
        if k < 1:
            return [-1]
        if k >= len(way):
            return [-4]
        self.here = way[-1 - k]
        return [0, self.here]

    def redo(self):
        if self.here not in self.visits:
            return [-4]
        self.enter(self.visits[self.here])
        return [0, self.here]

    def goto(self, node):
        if node not in self.parents:
            return [-4]
        above = self.way(self.here)
        self.here = node
        for step in self.way(node):
            if step not in above:
                self.enter(step)
        return [0]

    def state(self):
        cells, chance = self.world(self.here)
        return [0, self.here, chance] + [cells[cell] for cell in sorted(cells)]

    def path(self):
        return [0] + self.way(self.here)

    def children(self, node):
        if node not in self.parents:
            return [-4]
        return [0] + sorted(child for child, parent in self.parents.items() if parent == node and child)

    def delta(self, node):
        if node not in self.sentences:
            return [-4]
        (before, old), (behind, young) = self.world(self.parents[node]), self.world(node)
        answer = [0]
        for cell in sorted(before):
            if before[cell] != behind[cell]:
                answer += [cell, before[cell], behind[cell]]
        return answer + ([len(before), old, young] if old != young else [])

    def answer(self, call):
        if self.first is None and call[0] != 0:
            return [-7]
        if call[0] == 1:
            return self.say(*call[2:])
        acts = (self.new, None, self.undo, self.redo, self.goto, self.state, self.path, self.children, self.delta)
        return acts[call[0]](*call[1:])
