import unittest

from helpers import MOST, MOST_TOLD, PATH, REDO, STATE, children, delta, goto, last, new, run, say, undo

# The root has the children 1 and 4, node 1 the children 2 and 3, node 4 the child 5; one is at 5.
TREE = [new(2, 9), say("set 0 1"), say("set 0 2"), undo(1), say("set 1 3"), undo(2), say("set 1 4"), say("roll 0 1")]


def on_tree(*calls):
    return run(*TREE, *calls)[len(TREE):]


def full(cells=1):
    """A session with just as many nodes as there may be, all on one way."""
    return [new(cells)] + [say("add 0 1")] * 300


class Say(unittest.TestCase):
    def test_numbers_ascend_and_one_is_at_the_new_node(self):
        rows = run(*TREE, STATE, PATH)
        self.assertEqual([row[1] for row in (rows[1], rows[2], rows[4], rows[6], rows[7])], [1, 2, 3, 4, 5])
        chance = (9 * 6364136223846793005 + 1442695040888963407) % 2 ** 64
        self.assertEqual(rows[-2:], [[0, 5, chance, 0, 4], [0, 4, 5]])

    def test_a_refused_one_takes_no_number(self):
        self.assertEqual(run(new(1), say("take 0 1"), say("no"), say("set 1 1"), say("set 0 1"))[1:],
                         [[-4], [-1], [-4], [0, 1, 1]])

    def test_the_same_sentence_twice_makes_two_nodes(self):
        self.assertEqual(run(new(1), say("set 0 1"), undo(1), say("set 0 1"), children(0))[-2:], [[0, 2, 1], [0, 1, 2]])

    def test_the_300th_and_the_301st_node(self):
        rows = run(*full(), say("add 0 1"), STATE, PATH, children(300))
        self.assertEqual(rows[300:], [[0, 300, 300], [-5], [0, 300, 0, 300], [0] + list(range(1, 301)), [0]])

    def test_the_301st_elsewhere_in_the_tree(self):
        self.assertEqual(run(*full(), undo(300), say("set 0 1"), REDO, children(0))[-3:], [[-5], [0, 1], [0, 1]])

    def test_many_children_of_the_root(self):
        calls = [new(1)] + [say("set 0 1"), undo(1)] * 199
        rows = run(*calls, children(0))
        self.assertEqual(rows[-1], [0] + list(range(1, 200)))

    def test_the_refusal_nearest_to_0_where_there_is_no_place(self):
        texts = ["set 0", "take 0 301", "set 1 0", "roll 0 0", "set 0 0"]
        self.assertEqual(run(*full(), *[say(text) for text in texts])[301:], [[-1], [-4], [-4], [-4], [-5]])

    def test_no_sentence_before_a_cell_that_is_not_there(self):
        self.assertEqual(last(new(1), say("set 7 1000000001")), [-1])


class Undo(unittest.TestCase):
    def test_goes_up(self):
        self.assertEqual(on_tree(goto(3), undo(1), STATE, undo(1), STATE),
                         [[0], [0, 1], [0, 1, 9, 1, 0], [0, 0], [0, 0, 9, 0, 0]])

    def test_takes_back_the_chance(self):
        self.assertEqual(on_tree(undo(1), STATE), [[0, 4], [0, 4, 9, 0, 4]])

    def test_just_the_whole_way_and_one_more(self):
        self.assertEqual(on_tree(undo(3), PATH, undo(2), STATE, undo(1)),
                         [[-4], [0, 4, 5], [0, 0], [0, 0, 9, 0, 0], [-4]])

    def test_300_nodes_and_one_more(self):
        self.assertEqual(run(*full(), undo(301), undo(300), STATE)[301:], [[-4], [0, 0], [0, 0, 0, 0]])

    def test_the_greatest_k(self):
        self.assertEqual(on_tree(undo(MOST_TOLD), PATH), [[-4], [0, 4, 5]])

    def test_k_outside_of_its_range(self):
        for k in (0, -1, -MOST_TOLD, MOST_TOLD + 1):
            self.assertEqual(on_tree(undo(k), PATH), [[-1], [0, 4, 5]], k)

    def test_k_outside_of_its_range_at_the_root(self):
        self.assertEqual(run(new(1), undo(0), undo(-1), undo(1))[1:], [[-1], [-1], [-4]])


class Redo(unittest.TestCase):
    def test_goes_to_the_child_that_was_said_last(self):
        self.assertEqual(on_tree(undo(2), REDO, STATE, REDO, STATE)[1:3], [[0, 4], [0, 4, 9, 0, 4]])
        self.assertEqual(on_tree(undo(2), REDO, REDO, PATH)[1:], [[0, 4], [0, 5], [0, 4, 5]])

    def test_where_nothing_was_gone_to(self):
        self.assertEqual(run(new(1), REDO, STATE)[1:], [[-4], [0, 0, 0, 0]])
        self.assertEqual(on_tree(REDO, PATH), [[-4], [0, 4, 5]])

    def test_going_up_remembers_nothing_anew(self):
        self.assertEqual(on_tree(goto(1), undo(1), REDO, REDO)[2:], [[0, 1], [0, 3]])

    def test_remembers_each_node_for_itself(self):
        self.assertEqual(on_tree(goto(2), goto(5), undo(2), REDO, undo(1), goto(1), REDO)[3:],
                         [[0, 4], [0, 0], [0], [0, 2]])

    def test_a_redo_keeps_what_was_remembered(self):
        self.assertEqual(on_tree(undo(2), REDO, undo(1), REDO, REDO)[1:], [[0, 4], [0, 0], [0, 4], [0, 5]])

    def test_a_refused_sentence_is_not_gone_to(self):
        self.assertEqual(on_tree(undo(1), say("take 0 1"), REDO)[1:], [[-4], [0, 5]])


class Goto(unittest.TestCase):
    def test_everywhere_from_everywhere(self):
        x = (9 * 6364136223846793005 + 1442695040888963407) % 2 ** 64
        states = [[0, 0, 9, 0, 0], [0, 1, 9, 1, 0], [0, 2, 9, 2, 0], [0, 3, 9, 1, 3], [0, 4, 9, 0, 4], [0, 5, x, 0, 4]]
        paths = [[0], [0, 1], [0, 1, 2], [0, 1, 3], [0, 4], [0, 4, 5]]
        for begin in range(6):
            for end in range(6):
                self.assertEqual(on_tree(goto(begin), goto(end), STATE, PATH), [[0], [0], states[end], paths[end]])

    def test_down_through_other_nodes_remembers_each(self):
        rows = on_tree(goto(2), undo(2), REDO, REDO, STATE)
        self.assertEqual(rows[1:], [[0, 0], [0, 1], [0, 2], [0, 2, 9, 2, 0]])

    def test_up_remembers_nothing_anew(self):
        self.assertEqual(on_tree(goto(2), goto(0), goto(4), goto(0), REDO, REDO)[4:], [[0, 4], [0, 5]])
        self.assertEqual(on_tree(goto(4), REDO)[1:], [[0, 5]])

    def test_only_up_to_the_last_node_on_both_ways(self):
        # From 2 to 3 one turns at 1, so the root still remembers what was gone to before.
        self.assertEqual(on_tree(goto(2), goto(3), undo(1), REDO)[3:], [[0, 3]])
        self.assertEqual(on_tree(goto(2), goto(3), undo(2), REDO, REDO)[3:], [[0, 1], [0, 3]])

    def test_to_where_one_is(self):
        self.assertEqual(on_tree(undo(1), goto(4), REDO)[1:], [[0], [0, 5]])
        self.assertEqual(run(new(1), goto(0), PATH, REDO)[1:], [[0], [0], [-4]])

    def test_through_300_nodes(self):
        self.assertEqual(run(*full(), goto(0), goto(300), STATE, goto(150), STATE)[302:],
                         [[0], [0, 300, 0, 300], [0], [0, 150, 0, 150]])

    def test_a_node_that_is_not_there(self):
        for node in (6, -1, 300, MOST_TOLD, -MOST_TOLD):
            self.assertEqual(on_tree(goto(node), PATH), [[-4], [0, 4, 5]], node)


class StateAndPath(unittest.TestCase):
    def test_at_the_root(self):
        self.assertEqual(run(new(3, 11), STATE, PATH)[1:], [[0, 0, 11, 0, 0, 0], [0]])

    def test_the_cells_stand_behind_the_chance_in_order(self):
        self.assertEqual(run(new(3, 11), say("set 2 5"), say("set 0 1000000000"), STATE, PATH)[3:],
                         [[0, 2, 11, MOST, 0, 5], [0, 1, 2]])

    def test_a_chance_above_all_told_numbers(self):
        x = (2 * 6364136223846793005 + 1442695040888963407) % 2 ** 64
        self.assertGreater(x, MOST_TOLD)
        self.assertEqual(last(new(1, 2), say("roll 0 1"), STATE), [0, 1, x, 0])

    def test_they_change_nothing(self):
        self.assertEqual(on_tree(undo(1), STATE, PATH, STATE, PATH, REDO)[3:], [[0, 4, 9, 0, 4], [0, 4], [0, 5]])


class Children(unittest.TestCase):
    def test_of_each_node(self):
        self.assertEqual(on_tree(*[children(node) for node in range(6)]), [[0, 1, 4], [0, 2, 3], [0], [0], [0, 5], [0]])

    def test_ascending_wherever_one_went_last(self):
        self.assertEqual(on_tree(goto(2), children(0), children(1)), [[0], [0, 1, 4], [0, 2, 3]])

    def test_the_answer_is_apart_from_the_tree(self):
        self.assertEqual(on_tree(children(0), children(0)), [[0, 1, 4], [0, 1, 4]])

    def test_a_node_that_is_not_there(self):
        for node in (6, -1, MOST_TOLD, -MOST_TOLD):
            self.assertEqual(on_tree(children(node)), [[-4]], node)


class Delta(unittest.TestCase):
    def test_one_cell(self):
        self.assertEqual(run(new(3), say("set 1 4"), say("add 1 3"), say("take 1 7"), delta(1), delta(2), delta(3))[4:],
                         [[0, 1, 0, 4], [0, 1, 4, 7], [0, 1, 7, 0]])

    def test_two_cells_ascend_whatever_was_named_first(self):
        self.assertEqual(run(new(3), say("set 2 9"), say("move 2 0 4"), say("swap 2 1"), delta(2), delta(3))[2:],
                         [[0, 2, 5, 4], [0, 3, 0, 5], [0, 0, 0, 4, 2, 9, 5], [0, 1, 0, 5, 2, 5, 0]])

    def test_where_the_sentence_changed_nothing(self):
        texts = ["set 0 0", "add 0 0", "take 0 0", "move 0 1 0", "swap 0 0", "swap 0 1"]
        for text in texts:
            self.assertEqual(last(new(2, 5), say(text), delta(1)), [0], text)

    def test_where_the_chance_changed(self):
        x = 1442695040888963407
        self.assertEqual(last(new(3), say("roll 1 1000"), delta(1)), [0, 1, 0, 807, 3, 0, x])
        self.assertEqual(last(new(3), say("set 1 807"), say("roll 1 1000"), delta(2)), [0, 3, 0, x])
        self.assertEqual(last(new(16), say("roll 15 1"), delta(1)), [0, 16, 0, x])
        self.assertEqual(last(new(1), say("roll 0 1000"), delta(1)), [0, 0, 0, 807, 1, 0, x])

    def test_wherever_one_is(self):
        self.assertEqual(on_tree(goto(2), delta(3), delta(4), delta(2), STATE)[1:],
                         [[0, 1, 0, 3], [0, 1, 0, 4], [0, 0, 1, 2], [0, 2, 9, 2, 0]])

    def test_the_root_and_nodes_that_are_not_there(self):
        for node in (0, 6, -1, MOST_TOLD, -MOST_TOLD):
            self.assertEqual(on_tree(delta(node)), [[-4]], node)


if __name__ == "__main__":
    unittest.main()
