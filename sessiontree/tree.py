"""The tree of a session, kept by what each sentence changed, and the walk in it."""

from sessiontree.sentences import changes_between

ROOT = 0
MOST_NODES = 300


# Parents and children are numbers. gone_to is the child that was gone to last, None while there is none.
class Node:
    def __init__(self, parent, sentence, changes):
        self.parent = parent
        self.sentence = sentence
        self.changes = changes
        self.children = []
        self.gone_to = None


# One world alone is kept, that of here: every step up or down changes it by what the node's sentence changed.
class Session:
    def __init__(self, cells, seed):
        self.nodes = {ROOT: Node(None, None, [])}
        self.last_number = ROOT
        self.here = ROOT
        self.world = [0] * cells + [seed]

    def has_place(self):
        """Whether one more node may be made; the root isn't counted."""
        return len(self.nodes) - 1 < MOST_NODES

    def say(self, sentence, behind):
        """Make the node of a sentence that brings the world behind from the one here, and go there."""
        self.last_number += 1
        self.nodes[self.last_number] = Node(self.here, sentence, changes_between(self.world, behind))
        self.nodes[self.here].children.append(self.last_number)
        self.go_down(self.last_number)

    def go_down(self, child):
        """Go to a child of here."""
        node = self.nodes[self.here]
        node.gone_to = child
        for place, before, behind in self.nodes[child].changes:
            self.world[place] = behind
        self.here = child

    def go_up(self):
        """Go to the parent of here."""
        node = self.nodes[self.here]
        for place, before, behind in node.changes:
            self.world[place] = before
        self.here = node.parent

    def go_to(self, number):
        """Go up to the last node that is on both ways, then down."""
        way_here = self.way_to(self.here)
        way_there = self.way_to(number)
        shared = shared_length(way_here, way_there)
        for step in way_here[shared:]:
            self.go_up()
        for step in way_there[shared:]:
            self.go_down(step)

    def way_to(self, number):
        """The numbers of the nodes from below the root to this one."""
        way = []
        while number != ROOT:
            way.append(number)
            number = self.nodes[number].parent
        way.reverse()
        return way


def shared_length(one, other):
    """How many nodes two ways have in common from their beginning on."""
    shared = 0
    while shared < len(one) and shared < len(other) and one[shared] == other[shared]:
        shared += 1
    return shared
