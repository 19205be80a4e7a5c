import unittest

from helpers import (MOST_TOLD, PATH, REDO, SAVE, SCRIPT, STATE, children, delta, diff, goto, last, load, merge, new, prune,
                     run, say, text_of, undo)

# The root has the children 1 and 5, node 1 the children 2 and 4, node 2 the child 3; one is at 5.
TREE = [new(2, 9), say("set 0 1"), say("set 0 2"), say("set 0 3"), undo(2), say("set 1 4"), undo(2), say("set 1 5")]


def on_tree(*calls):
    return run(*TREE, *calls)[len(TREE):]


class Prune(unittest.TestCase):
    def test_a_leaf(self):
        self.assertEqual(on_tree(prune(3), children(2), children(1), STATE, PATH),
                         [[0, 1], [0], [0, 2, 4], [0, 5, 9, 0, 5], [0, 5]])

    def test_a_node_with_nodes_under_it(self):
        self.assertEqual(on_tree(prune(2), children(1), children(0)), [[0, 2], [0, 4], [0, 1, 5]])
        self.assertEqual(on_tree(prune(1), children(0), STATE), [[0, 4], [0, 5], [0, 5, 9, 0, 5]])

    def test_what_went_is_not_there(self):
        gone = on_tree(prune(1), *[call for node in (1, 2, 3, 4) for call in (
            goto(node), children(node), delta(node), diff(node, 0), diff(0, node), merge(node), prune(node))], PATH)
        self.assertEqual(gone, [[0, 4]] + [[-4]] * 28 + [[0, 5]])

    def test_what_stays_is_there(self):
        rows = on_tree(prune(2), goto(4), STATE, PATH, delta(4), diff(0, 4), SAVE, SCRIPT)
        self.assertEqual(rows[1:6], [[0], [0, 4, 9, 1, 4], [0, 1, 4], [0, 1, 0, 4], [0, 0, 0, 1, 1, 0, 4]])
        self.assertEqual(text_of(rows[7]), "set 0 1\n= 1\nset 1 4\n= 4\n")

    def test_under_here(self):
        self.assertEqual(on_tree(goto(1), prune(2), children(1), STATE), [[0], [0, 2], [0, 4], [0, 1, 9, 1, 0]])
        self.assertEqual(on_tree(goto(0), prune(1), prune(5), children(0), STATE),
                         [[0], [0, 4], [0, 1], [0], [0, 0, 9, 0, 0]])

    def test_a_branch_beside_here(self):
        self.assertEqual(on_tree(goto(4), prune(2), prune(5), PATH), [[0], [0, 2], [0, 1], [0, 1, 4]])

    def test_a_long_way(self):
        calls = [new(1)] + [say("add 0 1")] * 300 + [goto(0), prune(1), children(0), PATH]
        self.assertEqual(run(*calls)[302:], [[0, 300], [0], [0]])

    def test_many_children(self):
        calls = [new(1), say("set 0 1")] + [say("set 0 1"), undo(1)] * 190 + [undo(1), prune(100), prune(1), children(0)]
        self.assertEqual(run(*calls)[-3:], [[0, 1], [0, 190], [0]])


class HereWouldGo(unittest.TestCase):
    def test_the_root(self):
        self.assertEqual(run(new(1), prune(0), STATE)[1:], [[-3], [0, 0, 0, 0]])
        for node in range(6):
            self.assertEqual(on_tree(goto(node), prune(0), PATH)[1], [-3], node)

    def test_here(self):
        self.assertEqual(on_tree(prune(5), STATE, children(0)), [[-3], [0, 5, 9, 0, 5], [0, 1, 5]])

    def test_a_node_above_here(self):
        self.assertEqual(on_tree(goto(3), prune(1), prune(2), prune(3), PATH, children(0), children(1), children(2)),
                         [[0], [-3], [-3], [-3], [0, 1, 2, 3], [0, 1, 5], [0, 2, 4], [0, 3]])

    def test_a_refused_one_leaves_all_as_it_was(self):
        self.assertEqual(on_tree(goto(2), prune(1), undo(2), REDO, REDO, REDO, STATE)[1:],
                         [[-3], [0, 0], [0, 1], [0, 2], [0, 3], [0, 3, 9, 3, 0]])


class NotThere(unittest.TestCase):
    def test_nodes_that_are_not_there(self):
        for node in (6, -1, 300, MOST_TOLD, -MOST_TOLD):
            self.assertEqual(on_tree(prune(node), PATH, children(0)), [[-4], [0, 5], [0, 1, 5]], node)

    def test_twice(self):
        self.assertEqual(on_tree(prune(2), prune(2), prune(3), prune(1), prune(1)), [[0, 2], [-4], [-4], [0, 2], [-4]])


class NumbersAndPlace(unittest.TestCase):
    def test_numbers_are_not_given_again(self):
        self.assertEqual(on_tree(prune(1), say("set 0 7"), PATH, goto(1)), [[0, 4], [0, 6, 7], [0, 5, 6], [-4]])

    def test_nor_is_the_last_one(self):
        self.assertEqual(on_tree(undo(1), prune(5), say("set 0 7"), children(0), goto(5)),
                         [[0, 0], [0, 1], [0, 6, 7], [0, 1, 6], [-4]])
        self.assertEqual(run(new(1), say("set 0 1"), undo(1), prune(1), say("set 0 2"), undo(1), prune(2), say("set 0 3"))[-1],
                         [0, 3, 3])

    def test_nor_by_a_merge(self):
        self.assertEqual(on_tree(prune(4), merge(3), PATH, children(5)), [[0, 1], [0, 8, 3], [0, 5, 6, 7, 8], [0, 6]])

    def test_children_ascend_behind_it(self):
        self.assertEqual(on_tree(goto(1), prune(2), say("set 0 8"), undo(1), say("set 0 9"), children(1)),
                         [[0], [0, 2], [0, 6, 8], [0, 1], [0, 7, 9], [0, 4, 6, 7]])

    def test_place_for_just_as_many_as_went(self):
        full = [new(1)] + [say("add 0 1")] * 300
        self.assertEqual(run(*full, say("add 0 1"), goto(297), prune(298), *[say("add 0 1")] * 4, PATH)[301:],
                         [[-5], [0], [0, 3], [0, 301, 298], [0, 302, 299], [0, 303, 300], [-5],
                          [0] + list(range(1, 298)) + [301, 302, 303]])

    def test_place_for_a_merge(self):
        calls = [new(2)] + [say("add 0 1")] * 200 + [undo(200)] + [say("add 1 1")] * 100
        self.assertEqual(run(*calls, merge(100), goto(200), prune(201), goto(0), merge(100), merge(1))[len(calls):],
                         [[-5], [0], [0, 100], [0], [0, 400, 100], [-5]])

    def test_a_load_begins_numbers_anew(self):
        text = text_of(last(*TREE, SAVE))
        self.assertEqual(on_tree(prune(1), load(text), PATH, say("set 0 1"))[1:], [[0, 1], [0, 1], [0, 2, 1]])


class Redo(unittest.TestCase):
    def test_where_the_child_that_was_gone_to_last_is_pruned(self):
        self.assertEqual(on_tree(undo(1), prune(5), REDO, children(0), PATH), [[0, 0], [0, 1], [-4], [0, 1], [0]])

    def test_none_till_one_is_gone_to_again(self):
        before = [undo(1), prune(5), REDO]
        self.assertEqual(on_tree(*before, goto(1), undo(1), REDO)[2:], [[-4], [0], [0, 0], [0, 1]])
        self.assertEqual(on_tree(*before, goto(4), goto(0), REDO, REDO)[2:], [[-4], [0], [0], [0, 1], [0, 4]])
        self.assertEqual(on_tree(*before, say("set 0 1"), undo(1), REDO)[2:], [[-4], [0, 6, 1], [0, 0], [0, 6]])
        self.assertEqual(on_tree(*before, merge(1), undo(1), REDO)[2:], [[-4], [0, 6, 1], [0, 0], [0, 6]])

    def test_where_another_child_is_pruned(self):
        self.assertEqual(on_tree(undo(1), prune(1), REDO), [[0, 0], [0, 4], [0, 5]])
        self.assertEqual(on_tree(goto(1), prune(2), REDO), [[0], [0, 2], [0, 4]])

    def test_where_a_node_further_down_is_pruned(self):
        self.assertEqual(on_tree(goto(3), undo(3), prune(3), REDO, REDO, REDO)[1:],
                         [[0, 0], [0, 1], [0, 1], [0, 2], [-4]])

    def test_where_it_is_pruned_from_elsewhere(self):
        self.assertEqual(on_tree(prune(4), goto(1), REDO, PATH), [[0, 1], [0], [-4], [0, 1]])

    def test_going_up_does_not_remember_it(self):
        # The one that was gone to before the pruned one isn't brought back either.
        self.assertEqual(on_tree(goto(2), goto(4), undo(1), prune(4), REDO)[3:], [[0, 1], [-4]])


if __name__ == "__main__":
    unittest.main()
