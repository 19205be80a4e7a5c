"""The tree of a session, kept by what each sentence changed, and the walk in it."""

from sessiontree.sentences import changes_between, world_behind

ROOT = 0
MOST_NODES = 300
MOST_CELLS = 16
MOST_SEED = 1000000000000000000


# Parents and children are numbers. gone_to is the child that was gone to last, None while there is none.
class Node:
    def __init__(self, parent, sentence, changes):
        self.parent = parent
        self.sentence = sentence
        self.changes = changes
        self.children = []
        self.gone_to = None


# Beside the first world only that of here is kept: every step up or down changes it by what the node's
# sentence changed.
class Session:
    def __init__(self, cells, seed):
        self.cells = cells
        self.seed = seed
        self.nodes = {ROOT: Node(None, None, [])}
        self.last_number = ROOT
        self.here = ROOT
        self.first_world = [0] * cells + [seed]
        self.world = list(self.first_world)

    def has_place_for(self, more):
        """Whether so many more nodes may be made; the root isn't counted."""
        return len(self.nodes) - 1 + more <= MOST_NODES

    def say(self, sentence, behind):
        """Make the node of a sentence that brings the world behind from the one here, and go there."""
        self.last_number += 1
        self.nodes[self.last_number] = Node(self.here, sentence, changes_between(self.world, behind))
        self.nodes[self.here].children.append(self.last_number)
        self.go_down(self.last_number)

    def say_all(self, sentences):
        """Say in order sentences none of which the story refuses."""
        for sentence in sentences:
            self.say(sentence, world_behind(sentence, self.world))

    def prune(self, number):
        """Take away a node that here isn't and isn't under, with all under it; answer how many went."""
        parent = self.nodes[self.nodes[number].parent]
        parent.children.remove(number)
        if parent.gone_to == number:
            parent.gone_to = None
        went = 0
        going = [number]
        while len(going) > 0:
            node = self.nodes.pop(going.pop())
            going.extend(node.children)
            went += 1
        return went

    def go_down(self, child):
        """Go to a child of here."""
        node = self.nodes[self.here]
        node.gone_to = child
        put_behind(self.world, self.nodes[child].changes)
        self.here = child

    def go_up(self):
        """Go to the parent of here."""
        node = self.nodes[self.here]
        for place, before, behind in node.changes:
            self.world[place] = before
        self.here = node.parent

    def go_to(self, number):
        """Go up to the last node that is on both ways, then down."""
        way_here = self.way_to(self.here)
        way_there = self.way_to(number)
        shared = shared_length(way_here, way_there)
        for step in way_here[shared:]:
            self.go_up()
        for step in way_there[shared:]:
            self.go_down(step)

    def way_to(self, number):
        """The numbers of the nodes from below the root to this one."""
        way = []
        while number != ROOT:
            way.append(number)
            number = self.nodes[number].parent
        way.reverse()
        return way

    def world_at(self, number):
        """The world that the node stands for; one stays where one is."""
        world = list(self.first_world)
        for step in self.way_to(number):
            put_behind(world, self.nodes[step].changes)
        return world

    def sentences_of(self, way):
        """The sentences of the nodes of a way, or of a part of one."""
        return [self.nodes[number].sentence for number in way]


def may_begin(cells, seed):
    """Whether there may be a session with so many cells and this seed."""
    return cells >= 1 and cells <= MOST_CELLS and seed >= 0 and seed <= MOST_SEED


def put_behind(world, changes):
    """Change the world from what it was before the changes to what it is behind them."""
    for place, before, behind in changes:
        world[place] = behind


def shared_length(one, other):
    """How many nodes two ways have in common from their beginning on."""
    shared = 0
    while shared < len(one) and shared < len(other) and one[shared] == other[shared]:
        shared += 1
    return shared
