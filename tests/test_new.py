import unittest

from helpers import MOST_TOLD, PATH, REDO, STATE, children, delta, goto, last, new, run, say


class New(unittest.TestCase):
    def test_answers_0_and_is_at_the_root_of_the_first_world(self):
        self.assertEqual(run(new(3, 7), STATE, PATH, children(0)), [[0], [0, 0, 7, 0, 0, 0], [0], [0]])

    def test_1_and_16_cells(self):
        self.assertEqual(run(new(1, 5), STATE), [[0], [0, 0, 5, 0]])
        self.assertEqual(run(new(16, 5), STATE), [[0], [0, 0, 5] + [0] * 16])

    def test_the_least_and_the_greatest_seed(self):
        self.assertEqual(run(new(1, 0), STATE), [[0], [0, 0, 0, 0]])
        self.assertEqual(run(new(1, MOST_TOLD), STATE), [[0], [0, 0, MOST_TOLD, 0]])

    def test_cells_outside_of_their_range(self):
        for cells in (-MOST_TOLD, -1, 0, 17, 300, MOST_TOLD):
            self.assertEqual(run(new(cells, 0), STATE), [[-1], [-7]], cells)

    def test_seeds_outside_of_their_range(self):
        for seed in (-MOST_TOLD, -1, MOST_TOLD + 1):
            self.assertEqual(run(new(2, seed), STATE), [[-1], [-7]], seed)

    def test_both_outside_of_their_ranges(self):
        self.assertEqual(run(new(0, -1)), [[-1]])

    def test_a_second_one_begins_anew(self):
        rows = run(new(2, 3), say("set 0 9"), say("roll 1 6"), new(3, 4), STATE, PATH, children(0), REDO,
                   goto(1), delta(1), say("set 2 8"))
        self.assertEqual(rows[3:], [[0], [0, 0, 4, 0, 0, 0], [0], [0], [-4], [-4], [-4], [0, 1, 8]])

    def test_a_refused_one_leaves_the_session_as_it_was(self):
        rows = run(new(2, 3), say("set 0 9"), new(17, 0), STATE, PATH, say("set 1 4"))
        self.assertEqual(rows[2:], [[-1], [0, 1, 3, 9, 0], [0, 1], [0, 2, 4]])

    def test_a_new_session_has_place_again(self):
        full = [new(1)] + [say("add 0 1")] * 300
        self.assertEqual(last(*full, say("add 0 1")), [-5])
        self.assertEqual(last(*full, new(1), say("add 0 1")), [0, 1, 1])


if __name__ == "__main__":
    unittest.main()
