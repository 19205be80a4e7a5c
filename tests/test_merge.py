import unittest

from helpers import (MOST, MOST_TOLD, PATH, REDO, STATE, bytes_of, children, delta, goto, last, merge, new, prune, run, say,
                     undo)
from sessiontree.sentences import changed_by, looked_at_by, read_sentence

X = (9 * 6364136223846793005 + 1442695040888963407) % 2 ** 64


def fork(both, there, here, *calls, cells=4):
    """The answers to the calls where one is at the end of here, and the end of there is its twin branch.

    The nodes of both come first, then those of there, then those of here.
    """
    before = [new(cells, 9)] + [say(text) for text in both + there]
    before += [goto(len(both))] + [say(text) for text in here]
    return run(*before, *calls)[len(before):]


class Merge(unittest.TestCase):
    def test_two_branches_that_do_not_touch(self):
        rows = fork(["set 0 5"], ["add 1 3", "take 1 1"], ["set 2 8"], merge(3), STATE, PATH, children(4), children(5))
        self.assertEqual(rows, [[0, 6, 2], [0, 6, 9, 5, 2, 8, 0], [0, 1, 4, 5, 6], [0, 5], [0, 6]])

    def test_the_sentences_are_said_in_order(self):
        rows = fork([], ["set 0 1", "add 0 4", "swap 0 1"], ["set 3 3"], merge(3), delta(5), delta(6), delta(7))
        self.assertEqual(rows, [[0, 7, 3], [0, 0, 0, 1], [0, 0, 1, 5], [0, 0, 5, 0, 1, 0, 5]])

    def test_a_node_in_the_middle_of_a_branch(self):
        rows = fork([], ["set 0 1", "set 1 2", "set 2 3"], ["set 3 4"], merge(2), STATE)
        self.assertEqual(rows, [[0, 6, 2], [0, 6, 9, 1, 2, 0, 4]])

    def test_the_other_branch_stays(self):
        rows = fork([], ["set 0 1", "set 1 2"], ["set 3 4"], merge(2), goto(2), STATE, PATH, children(0), children(2))
        self.assertEqual(rows[1:], [[0], [0, 2, 9, 1, 2, 0, 0], [0, 1, 2], [0, 1, 3], [0]])

    def test_a_roll_brings_what_it_brought_there(self):
        rows = fork([], ["roll 0 1000"], ["set 3 4"], delta(1), merge(1), delta(3), STATE)
        self.assertEqual(rows[1:3], [[0, 3, 1], rows[0]])
        self.assertEqual(rows[3][:3], [0, 3, X])
        self.assertEqual(fork([], ["set 3 4"], ["roll 0 1"], merge(1), STATE), [[0, 3, 1], [0, 3, X, 0, 0, 0, 4]])

    def test_a_sentence_further_on_goes_on(self):
        rows = fork([], ["set 0 1"], ["set 3 4"], merge(1), say("add 0 9"), merge(1))
        # Node 1 is still not on the way here, though its sentence is; now both ways change cell 0.
        self.assertEqual(rows, [[0, 3, 1], [0, 4, 10], [-6]])

    def test_back_from_the_other_side(self):
        rows = fork([], ["set 0 1"], ["set 3 4"], goto(1), merge(2), STATE)
        self.assertEqual(rows[1:], [[0, 3, 1], [0, 3, 9, 1, 0, 0, 4]])

    def test_numbers_go_on_behind_it(self):
        self.assertEqual(fork([], ["set 0 1"], ["set 3 4"], merge(1), say("set 1 1"))[1], [0, 4, 1])


class NothingToSay(unittest.TestCase):
    def test_here_itself(self):
        self.assertEqual(fork([], ["set 0 1"], ["set 0 2"], merge(2), STATE, children(2)),
                         [[0, 2, 0], [0, 2, 9, 2, 0, 0, 0], [0]])
        self.assertEqual(run(new(1), merge(0), PATH)[1:], [[0, 0, 0], [0]])

    def test_a_node_on_the_way_here(self):
        rows = fork(["set 0 1", "set 0 2"], [], ["set 0 3"], merge(0), merge(1), merge(2), PATH, say("set 0 4"))
        self.assertEqual(rows, [[0, 3, 0], [0, 3, 0], [0, 3, 0], [0, 1, 2, 3], [0, 4, 4]])

    def test_where_there_are_300_nodes(self):
        calls = [new(1)] + [say("add 0 1")] * 300
        self.assertEqual(run(*calls, merge(300), merge(7), merge(0))[301:], [[0, 300, 0]] * 3)

    def test_what_was_gone_to_last_stays(self):
        self.assertEqual(fork(["set 0 1"], ["set 1 2"], ["set 2 3"], undo(1), merge(1), merge(0), REDO)[1:],
                         [[0, 1, 0], [0, 1, 0], [0, 3]])


class HereOnTheWayToIt(unittest.TestCase):
    def test_from_the_root(self):
        rows = run(new(1), say("set 0 5"), say("add 0 3"), undo(2), merge(2), STATE, PATH, children(0))
        self.assertEqual(rows[4:], [[0, 4, 2], [0, 4, 0, 8], [0, 3, 4], [0, 1, 3]])

    def test_from_below_the_root(self):
        rows = run(new(1), say("set 0 5"), say("add 0 3"), undo(1), merge(2), STATE, PATH, children(1))
        self.assertEqual(rows[4:], [[0, 3, 1], [0, 3, 0, 8], [0, 1, 3], [0, 2, 3]])

    def test_they_never_touch(self):
        rows = run(new(2, 9), say("roll 0 5"), say("roll 0 6"), say("swap 0 1"), undo(2), merge(3), STATE, goto(3), STATE)
        self.assertEqual(rows[5], [0, 5, 2])
        self.assertEqual(rows[6][2:], rows[8][2:])


class Place(unittest.TestCase):
    # Two branches from the root; here is the second one's end.
    def at(self, nodes_there, nodes_here, *calls):
        before = [new(2)] + [say("add 0 1")] * nodes_there + [undo(nodes_there)] + [say("add 1 1")] * nodes_here
        return run(*before, *calls)[len(before):]

    def test_just_300_nodes(self):
        self.assertEqual(self.at(100, 100, merge(100), STATE, say("add 0 1")), [[0, 300, 100], [0, 300, 0, 100, 100], [-5]])

    def test_one_more(self):
        self.assertEqual(self.at(100, 101, merge(100), STATE, children(201), merge(99)),
                         [[-5], [0, 201, 0, 0, 101], [0], [0, 300, 99]])

    def test_where_there_are_300_nodes(self):
        self.assertEqual(self.at(1, 299, merge(1), STATE), [[-5], [0, 300, 0, 0, 299]])

    def test_below_here(self):
        self.assertEqual(self.at(150, 1, goto(0), merge(150), merge(149)), [[0], [-5], [0, 300, 149]])

    def test_no_place_before_ways_that_touch(self):
        before = [new(1)] + [say("add 0 1")] * 150 + [undo(150)] + [say("add 0 1")] * 150
        self.assertEqual(run(*before, merge(1), merge(150))[len(before):], [[-5], [-5]])

    def test_ways_that_touch_where_there_is_just_place(self):
        before = [new(1)] + [say("add 0 1")] * 100 + [undo(100)] + [say("add 0 1")] * 100
        self.assertEqual(run(*before, merge(100), PATH)[len(before):], [[-6], [0] + list(range(101, 201))])

    def test_place_again_behind_a_prune(self):
        self.assertEqual(self.at(100, 101, merge(100), goto(200), prune(201), merge(100)),
                         [[-5], [0], [0, 1], [0, 301, 100]])


# For each sentence the cells that it may change, c for the chance; there is none that looks at anything else.
REACH = {
    "set 0 1": "0", "add 0 0": "0", "take 0 0": "0", "move 0 1 0": "01", "move 1 0 0": "01", "swap 0 1": "01",
    "swap 1 0": "01", "swap 0 0": "0", "roll 0 5": "0c", "set 1 1": "1", "add 1 0": "1", "take 1 0": "1",
    "move 1 2 0": "12", "move 2 1 0": "12", "swap 2 1": "12", "swap 1 1": "1", "roll 1 5": "1c", "set 2 1": "2",
    "roll 2 5": "2c", "move 3 2 0": "23", "swap 2 3": "23", "swap 3 3": "3", "add 3 1": "3",
}


class Reach(unittest.TestCase):
    # In a world with 7 cells the chance stands at the place 7.
    def test_what_a_sentence_looks_at_and_may_change(self):
        for text, looks, changes in (("set 2 5", [], [2]), ("add 2 5", [2], [2]), ("take 2 5", [2], [2]),
                                     ("move 2 3 5", [2, 3], [2, 3]), ("swap 3 2", [3, 2], [3, 2]),
                                     ("roll 2 5", [7], [2, 7])):
            sentence = read_sentence(bytes_of(text))
            self.assertEqual((looked_at_by(sentence, 7), changed_by(sentence, 7)), (looks, changes), text)


class Touch(unittest.TestCase):
    def test_every_sentence_with_every_sentence(self):
        for there, reach in REACH.items():
            for here, other in REACH.items():
                touch = any(place in other for place in reach)
                self.assertEqual(fork([], [there], [here], merge(1)), [[-6] if touch else [0, 3, 1]], (there, here))

    def test_a_cell_that_both_change(self):
        self.assertEqual(fork([], ["set 0 1"], ["set 0 2"], merge(1), STATE, REDO, children(2)),
                         [[-6], [0, 2, 9, 2, 0, 0, 0], [-4], [0]])

    def test_a_cell_that_both_set_to_the_same(self):
        self.assertEqual(fork([], ["set 0 1"], ["set 0 1"], merge(1)), [[-6]])

    def test_a_cell_that_one_looks_at_and_the_other_changes(self):
        self.assertEqual(fork(["set 0 9"], ["take 0 1"], ["set 0 3"], merge(2)), [[-6]])
        self.assertEqual(fork(["set 0 9"], ["set 0 3"], ["take 0 1"], merge(2)), [[-6]])
        self.assertEqual(fork(["set 0 9"], ["move 0 1 4"], ["roll 1 5"], merge(2)), [[-6]])
        self.assertEqual(fork(["set 0 9"], ["roll 1 5"], ["move 0 1 4"], merge(2)), [[-6]])

    def test_the_chance_that_both_change(self):
        self.assertEqual(fork([], ["roll 0 1"], ["roll 1 1"], merge(1), STATE), [[-6], [0, 2, X, 0, 0, 0, 0]])

    def test_a_cell_that_a_roll_and_another_change(self):
        self.assertEqual(fork([], ["roll 0 5"], ["set 0 5"], merge(1)), [[-6]])
        self.assertEqual(fork([], ["set 0 5"], ["roll 0 5"], merge(1)), [[-6]])

    def test_a_roll_does_not_touch_a_cell_by_its_second_number(self):
        self.assertEqual(fork([], ["roll 0 1"], ["set 1 5"], merge(1))[0], [0, 3, 1])
        self.assertEqual(fork([], ["set 0 1"], ["set 1 0"], merge(1))[0], [0, 3, 1])

    def test_the_chance_is_no_cell(self):
        # With 4 cells the chance has the number 4 among what changed; no cell is touched by it.
        self.assertEqual(fork([], ["roll 0 5"], ["set 3 5"], merge(1)), [[0, 3, 1]])
        self.assertEqual(fork([], ["set 3 5"], ["roll 0 5"], merge(1)), [[0, 3, 1]])

    # No sentence looks at a cell that it may not change, so ways that look at one cell touch.
    def test_what_may_change_counts_though_it_did_not(self):
        for text in ("set 0 0", "add 0 0", "take 0 0", "swap 0 0", "move 0 1 0"):
            self.assertEqual(fork([], [text], [text], merge(1)), [[-6]], text)

    def test_one_sentence_of_many(self):
        there = ["set 0 1", "set 1 1", "swap 0 1"]
        self.assertEqual(fork([], there, ["set 2 1", "set 3 1", "set 1 7"], merge(3), merge(2), merge(1)),
                         [[-6], [-6], [0, 7, 1]])
        self.assertEqual(fork([], there, ["set 1 7", "set 2 1", "set 3 1"], merge(3)), [[-6]])

    def test_sentences_on_both_ways_do_not_count(self):
        self.assertEqual(fork(["set 0 5", "roll 0 7"], ["add 0 1"], ["set 1 1"], merge(3)), [[0, 5, 1]])
        self.assertEqual(fork(["set 1 5", "roll 1 7"], ["add 0 1"], ["roll 1 1"], merge(3)), [[0, 5, 1]])

    def test_only_the_sentences_on_its_way_count(self):
        # Node 3 is under node 2 and touches, but it is not on the way to 2.
        self.assertEqual(fork([], ["set 0 1", "set 1 1", "set 2 1"], ["set 2 5"], merge(2), merge(3)), [[0, 6, 2], [-6]])

    def test_only_the_sentences_on_the_way_here_count(self):
        self.assertEqual(fork([], ["set 0 1"], ["set 1 1", "set 0 7"], undo(1), merge(1)), [[0, 2], [0, 4, 1]])

    def test_a_refused_one_leaves_all_as_it_was(self):
        rows = fork(["set 0 1"], ["set 1 2", "set 2 3"], ["set 3 3", "set 2 4"], undo(1), merge(3), STATE, PATH, children(4),
                    REDO, merge(3), REDO, say("set 0 5"))
        self.assertEqual(rows, [[0, 4], [0, 7, 2], [0, 7, 9, 1, 2, 3, 3], [0, 1, 4, 6, 7], [0, 5, 6], [-4], [-6], [-4],
                                [0, 8, 5]])
        rows = fork(["set 0 1"], ["set 2 3"], ["set 2 4", "set 3 3"], undo(1), merge(2), STATE, children(3), REDO,
                    say("set 0 5"))
        self.assertEqual(rows[1:], [[-6], [0, 3, 9, 1, 0, 4, 0], [0, 4], [0, 4], [0, 5, 5]])


class Redo(unittest.TestCase):
    def test_at_the_end_of_a_merge_there_is_none(self):
        self.assertEqual(fork([], ["set 0 1", "set 0 2"], ["set 3 4"], merge(2), REDO)[1:], [[-4]])

    def test_goes_through_what_was_merged(self):
        rows = fork([], ["set 0 1", "set 1 2"], ["set 3 4"], merge(2), undo(2), REDO, REDO, STATE, undo(3), REDO)
        self.assertEqual(rows[1:], [[0, 3], [0, 4], [0, 5], [0, 5, 9, 1, 2, 0, 4], [0, 0], [0, 3]])

    def test_the_merged_child_is_the_one_gone_to_last(self):
        rows = fork([], ["set 0 1"], ["set 3 4", "set 2 2"], undo(1), merge(1), undo(1), REDO, undo(1), children(2))
        self.assertEqual(rows[1:], [[0, 4, 1], [0, 2], [0, 4], [0, 2], [0, 3, 4]])

    def test_the_other_branch_is_not_gone_to(self):
        rows = fork([], ["set 0 1", "set 1 1"], ["set 3 4"], goto(1), goto(3), merge(2), goto(0), REDO, goto(1), REDO)
        self.assertEqual(rows[4:], [[0, 3], [0], [0, 2]])


class NotThere(unittest.TestCase):
    def test_nodes_that_are_not_there(self):
        for node in (3, -1, MOST, MOST_TOLD, -MOST_TOLD):
            self.assertEqual(fork([], ["set 0 1"], ["set 0 2"], merge(node), PATH), [[-4], [0, 2]], node)

    def test_before_no_place(self):
        self.assertEqual(last(new(1), *[say("add 0 1")] * 300, merge(301)), [-4])

    def test_a_pruned_node(self):
        self.assertEqual(fork([], ["set 0 1", "set 0 3"], ["set 1 2"], prune(1), merge(1), merge(2), PATH),
                         [[0, 2], [-4], [-4], [0, 3]])


if __name__ == "__main__":
    unittest.main()
