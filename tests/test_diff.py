import unittest

from helpers import MOST_TOLD, PATH, REDO, STATE, delta, diff, goto, last, new, run, say, undo

X = (9 * 6364136223846793005 + 1442695040888963407) % 2 ** 64

# The root has the children 1 and 4, node 1 the children 2 and 3, node 4 the child 5; one is at 5.
TREE = [new(2, 9), say("set 0 1"), say("set 0 2"), undo(1), say("set 1 3"), undo(2), say("set 1 4"), say("roll 0 1")]
WORLDS = [(0, 0, 9), (1, 0, 9), (2, 0, 9), (1, 3, 9), (0, 4, 9), (0, 4, X)]


def on_tree(*calls):
    return run(*TREE, *calls)[len(TREE):]


class Diff(unittest.TestCase):
    def test_every_node_with_every_node(self):
        for a, before in enumerate(WORLDS):
            for b, behind in enumerate(WORLDS):
                wanted = [0]
                for place in range(3):
                    if before[place] != behind[place]:
                        wanted += [place, before[place], behind[place]]
                self.assertEqual(on_tree(diff(a, b)), [wanted], (a, b))

    def test_on_one_way(self):
        self.assertEqual(on_tree(diff(0, 2), diff(2, 0), diff(1, 2)), [[0, 0, 0, 2], [0, 0, 2, 0], [0, 0, 1, 2]])

    def test_on_other_ways(self):
        self.assertEqual(on_tree(diff(2, 3), diff(3, 4)), [[0, 0, 2, 1, 1, 0, 3], [0, 0, 1, 0, 1, 3, 4]])

    def test_the_chance_stands_last_with_the_number_of_cells(self):
        self.assertEqual(on_tree(diff(4, 5), diff(5, 4), diff(2, 5)),
                         [[0, 2, 9, X], [0, 2, X, 9], [0, 0, 2, 0, 1, 0, 4, 2, 9, X]])
        self.assertEqual(last(new(16, 9), say("roll 15 1"), diff(0, 1)), [0, 16, 9, X])
        self.assertEqual(last(new(1, 9), say("roll 0 1"), diff(1, 0)), [0, 1, X, 9])

    def test_a_node_with_itself(self):
        self.assertEqual(on_tree(*[diff(node, node) for node in range(6)]), [[0]] * 6)

    def test_nodes_whose_worlds_are_the_same(self):
        self.assertEqual(last(new(2, 4), say("set 0 5"), undo(1), say("add 0 5"), say("swap 1 1"), diff(1, 3)), [0])

    def test_what_changed_and_was_changed_back_does_not_differ(self):
        self.assertEqual(last(new(2), say("set 1 5"), say("set 0 7"), say("set 1 0"), diff(0, 3)), [0, 0, 0, 7])

    def test_a_node_with_its_parent_is_delta(self):
        for node, parent in ((1, 0), (2, 1), (3, 1), (4, 0), (5, 4)):
            rows = on_tree(diff(parent, node), delta(node))
            self.assertEqual(rows[0], rows[1])

    def test_wherever_one_is_and_nothing_changes(self):
        for node in range(6):
            rows = on_tree(goto(node), STATE, PATH, diff(2, 5), STATE, PATH)
            self.assertEqual(rows[3], [0, 0, 2, 0, 1, 0, 4, 2, 9, X])
            self.assertEqual(rows[4:], rows[1:3])

    def test_what_was_gone_to_last_stays(self):
        self.assertEqual(on_tree(goto(4), diff(2, 3), diff(0, 2), undo(1), REDO, REDO)[4:], [[0, 4], [0, 5]])

    def test_nodes_that_are_not_there(self):
        for node in (6, -1, MOST_TOLD, -MOST_TOLD):
            self.assertEqual(on_tree(diff(node, 0), diff(0, node), diff(node, node), PATH),
                             [[-4], [-4], [-4], [0, 4, 5]], node)

    def test_300_nodes_apart(self):
        calls = [new(1)] + [say("add 0 2")] * 150 + [undo(150)] + [say("add 0 3")] * 150
        self.assertEqual(run(*calls, diff(150, 300), diff(300, 0))[-2:], [[0, 0, 300, 450], [0, 0, 450, 0]])


if __name__ == "__main__":
    unittest.main()
