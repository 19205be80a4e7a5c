"""The story once more, told otherwise: every node's world is worked out from the root each time it is asked for."""

import re

MOST = 10 ** 9
NUMBER = rb"(0|[1-9][0-9]{0,9})"
FORMS = {
    "set": re.compile(rb"set " + NUMBER + rb" " + NUMBER),
    "add": re.compile(rb"add " + NUMBER + rb" " + NUMBER),
    "take": re.compile(rb"take " + NUMBER + rb" " + NUMBER),
    "move": re.compile(rb"move " + NUMBER + rb" " + NUMBER + rb" " + NUMBER),
    "swap": re.compile(rb"swap " + NUMBER + rb" " + NUMBER),
    "roll": re.compile(rb"roll " + NUMBER + rb" " + NUMBER),
}

SAVE_FORM = re.compile(rb"story (0|[1-9][0-9]*) (0|[1-9][0-9]*)\n((?:[^\n]*\n)*)sum (0|[1-9][0-9]*)\n")


def read(text):
    for word, form in FORMS.items():
        found = form.fullmatch(bytes(text))
        if found:
            numbers = [int(one) for one in found.groups()]
            return (word, numbers) if max(numbers) <= MOST else None
    return None


def names(sentence):
    word, numbers = sentence
    return numbers[:2] if word in ("move", "swap") else numbers[:1]


def brings(sentence, cells, chance):
    """The cells and the chance behind the sentence, or None."""
    word, numbers = sentence
    if any(cell not in cells for cell in names(sentence)):
        return None
    i, v = numbers[0], numbers[-1]
    if word == "set":
        cells = {**cells, i: v}
    elif word == "add":
        cells = {**cells, i: cells[i] + v}
    elif word == "take":
        cells = {**cells, i: cells[i] - v}
    elif word == "move":
        if i == numbers[1]:
            return None
        cells = {**cells, i: cells[i] - v, numbers[1]: cells[numbers[1]] + v}
    elif word == "swap":
        cells = {**cells, i: cells[v], v: cells[i]}
    else:
        if v == 0:
            return None
        chance = (chance * 6364136223846793005 + 1442695040888963407) & (2 ** 64 - 1)
        cells = {**cells, i: (chance >> 33) % v}
    return (cells, chance) if all(0 <= value <= MOST for value in cells.values()) else None


def written(sentence):
    word, numbers = sentence
    return " ".join([word] + [str(number) for number in numbers]).encode()


def told(sentence, cells):
    return "".join(["="] + [f" {cells[cell]}" for cell in names(sentence)]).encode()


def changes(sentence):
    return set(names(sentence)) | ({"chance"} if sentence[0] == "roll" else set())


def looks(sentence):
    if sentence[0] == "roll":
        return {"chance"}
    return set() if sentence[0] == "set" else set(names(sentence))


def sum_of(text):
    """Each byte is added for its own place and all before it."""
    result = rest = 0
    for byte in reversed(text):
        rest += byte
        result += rest
    return result % 65521


def differing(world, other):
    (before, old), (behind, young) = world, other
    answer = [0]
    for cell in sorted(before):
        if before[cell] != behind[cell]:
            answer += [cell, before[cell], behind[cell]]
    return answer + ([len(before), old, young] if old != young else [])


class Model:
    def __init__(self):
        self.first = None

    def way(self, node):
        return self.way(self.parents[node]) + [node] if node else []

    def world(self, node):
        if node == 0:
            return self.first
        return brings(self.sentences[node], *self.world(self.parents[node]))

    def enter(self, node):
        self.visits[self.parents[node]] = node
        self.here = node

    def new(self, cells, seed):
        if not (1 <= cells <= 16 and 0 <= seed <= 10 ** 18):
            return [-1]
        self.first = ({cell: 0 for cell in range(cells)}, seed)
        self.parents, self.sentences, self.visits, self.here, self.made = {0: None}, {}, {}, 0, 0
        return [0]

    def say(self, *text):
        sentence = read(text)
        if sentence is None:
            return [-1]
        world = brings(sentence, *self.world(self.here))
        if world is None:
            return [-4]
        if len(self.sentences) >= 300:
            return [-5]
        self.make(sentence)
        return [0, self.here] + [world[0][cell] for cell in names(sentence)]

    def make(self, sentence):
        self.made += 1
        self.parents[self.made], self.sentences[self.made] = self.here, sentence
        self.enter(self.made)

    def undo(self, k):
        way = [0] + self.way(self.here)
        if k < 1:
            return [-1]
        if k >= len(way):
            return [-4]
        self.here = way[-1 - k]
        return [0, self.here]

    def redo(self):
        if self.here not in self.visits:
            return [-4]
        self.enter(self.visits[self.here])
        return [0, self.here]

    def goto(self, node):
        if node not in self.parents:
            return [-4]
        above = self.way(self.here)
        self.here = node
        for step in self.way(node):
            if step not in above:
                self.enter(step)
        return [0]

    def state(self):
        cells, chance = self.world(self.here)
        return [0, self.here, chance] + [cells[cell] for cell in sorted(cells)]

    def path(self):
        return [0] + self.way(self.here)

    def children(self, node):
        if node not in self.parents:
            return [-4]
        return [0] + sorted(child for child, parent in self.parents.items() if parent == node and child)

    def delta(self, node):
        if node not in self.sentences:
            return [-4]
        return differing(self.world(self.parents[node]), self.world(node))

    def diff(self, a, b):
        if a not in self.parents or b not in self.parents:
            return [-4]
        return differing(self.world(a), self.world(b))

    def merge(self, node):
        if node not in self.parents:
            return [-4]
        here, there = self.way(self.here), self.way(node)
        more = [self.sentences[step] for step in there if step not in here]
        rest = [self.sentences[step] for step in here if step not in there]
        if len(self.sentences) + len(more) > 300:
            return [-5]
        for one in more:
            for other in rest:
                if changes(one) & (looks(other) | changes(other)) or looks(one) & changes(other):
                    return [-6]
        for sentence in more:
            self.make(sentence)
        return [0, self.here, len(more)]

    def save(self):
        cells, seed = self.first
        rows = [f"story {len(cells)} {seed}".encode()] + [written(self.sentences[step]) for step in self.way(self.here)]
        text = b"".join(row + b"\n" for row in rows)
        return [0] + list(text + f"sum {sum_of(text)}\n".encode())

    def load(self, *text):
        found = SAVE_FORM.fullmatch(bytes(text))
        if not found:
            return [-2]
        cells, seed, total = int(found[1]), int(found[2]), int(found[4])
        sentences = [read(row) for row in found[3].split(b"\n")[:-1]]
        if None in sentences or not (1 <= cells <= 16 and seed <= 10 ** 18 and total <= 65521):
            return [-2]
        if total != sum_of(bytes(text)[:found.end(3)]):
            return [-3]
        world = ({cell: 0 for cell in range(cells)}, seed)
        for sentence in sentences:
            world = world and brings(sentence, *world)
        if world is None:
            return [-4]
        if len(sentences) > 300:
            return [-5]
        self.new(cells, seed)
        for sentence in sentences:
            self.make(sentence)
        return [0, self.here]

    def total(self, *text):
        return [0, sum_of(text)]

    def script(self):
        rows = []
        for step in self.way(self.here):
            rows += [written(self.sentences[step]), told(self.sentences[step], self.world(step)[0])]
        return [0] + list(b"".join(row + b"\n" for row in rows))

    def hold(self, *text):
        *rows, rest = bytes(text).split(b"\n")
        if rest:
            return [0, 0, len(rows) + 1]
        world = self.first
        for at in range(0, len(rows), 2):
            sentence = read(rows[at])
            world = sentence and brings(sentence, *world)
            if not world:
                return [0, 0, at + 1]
            if rows[at + 1:at + 2] != [told(sentence, world[0])]:
                return [0, 0, at + 2]
        return [0, 1]

    def prune(self, node):
        if node not in self.parents:
            return [-4]
        if node in [0] + self.way(self.here):
            return [-3]
        going = [other for other in self.parents if node in self.way(other)]
        for other in going:
            self.parents.pop(other), self.sentences.pop(other)
        self.visits = {above: below for above, below in self.visits.items() if not {above, below} & set(going)}
        return [0, len(going)]

    def answer(self, call):
        if self.first is None and call[0] not in (0, 12):
            return [-7]
        acts = (self.new, self.say, self.undo, self.redo, self.goto, self.state, self.path, self.children, self.delta,
                self.diff, self.merge, self.save, self.load, self.total, self.script, self.hold, self.prune)
        return acts[call[0]](*call[2 if call[0] in (1, 12, 13, 15) else 1:])
