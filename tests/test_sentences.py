import unittest

from helpers import MOST, MOST_TOLD, STATE, bytes_of, last, new, run, say


def after(texts, cells=4, seed=0):
    """The answers to the sentences, and the state behind them."""
    rows = run(new(cells, seed), *[say(text) for text in texts], STATE)
    return rows[1:]


class Words(unittest.TestCase):
    def test_set(self):
        self.assertEqual(after(["set 2 7"]), [[0, 1, 7], [0, 1, 0, 0, 0, 7, 0]])
        self.assertEqual(after(["set 0 1000000000", "set 0 0"], 1), [[0, 1, MOST], [0, 2, 0], [0, 2, 0, 0]])

    def test_add(self):
        self.assertEqual(after(["add 1 5", "add 1 6"]), [[0, 1, 5], [0, 2, 11], [0, 2, 0, 0, 11, 0, 0]])

    def test_add_just_to_most_and_one_beyond(self):
        rows = after(["set 0 999999999", "add 0 1", "add 0 1", "add 0 0"], 1)
        self.assertEqual(rows, [[0, 1, MOST - 1], [0, 2, MOST], [-4], [0, 3, MOST], [0, 3, 0, MOST]])

    def test_take(self):
        self.assertEqual(after(["set 3 9", "take 3 4"])[1:], [[0, 2, 5], [0, 2, 0, 0, 0, 0, 5]])

    def test_take_just_all_and_one_beyond(self):
        rows = after(["set 0 4", "take 0 5", "take 0 4", "take 0 1", "take 0 0"], 1)
        self.assertEqual(rows, [[0, 1, 4], [-4], [0, 2, 0], [-4], [0, 3, 0], [0, 3, 0, 0]])

    def test_move(self):
        rows = after(["set 2 9", "set 0 1", "move 2 0 4"])
        self.assertEqual(rows[2:], [[0, 3, 5, 5], [0, 3, 0, 5, 0, 5, 0]])

    def test_move_tells_in_the_order_named(self):
        self.assertEqual(after(["set 2 9", "move 2 0 4"])[1], [0, 2, 5, 4])
        self.assertEqual(after(["set 0 9", "move 0 2 4"])[1], [0, 2, 5, 4])

    def test_move_of_just_all_and_one_beyond(self):
        rows = after(["set 0 4", "move 0 1 5", "move 0 1 4", "move 0 1 0"], 2)
        self.assertEqual(rows[1:], [[-4], [0, 2, 0, 4], [0, 3, 0, 4], [0, 3, 0, 0, 4]])

    def test_move_just_to_most_and_one_beyond(self):
        rows = after(["set 0 9", "set 1 999999998", "move 0 1 3", "move 0 1 2"], 2)
        self.assertEqual(rows[2:], [[-4], [0, 3, 7, MOST], [0, 3, 0, 7, MOST]])

    def test_move_within_one_cell(self):
        self.assertEqual(after(["set 0 9", "move 0 0 1", "move 0 0 0"], 1)[1:], [[-4], [-4], [0, 1, 0, 9]])

    def test_swap(self):
        rows = after(["set 0 3", "set 3 8", "swap 0 3", "swap 3 0", "swap 1 3"])
        self.assertEqual(rows[2:], [[0, 3, 8, 3], [0, 4, 8, 3], [0, 5, 8, 0], [0, 5, 0, 3, 8, 0, 0]])

    def test_swap_within_one_cell(self):
        self.assertEqual(after(["set 0 3", "swap 0 0"], 1)[1:], [[0, 2, 3, 3], [0, 2, 0, 3]])

    def test_roll_from_chance_0(self):
        # The first chance is the step alone: 1442695040888963407, by 8589934592 it is 167951807.
        self.assertEqual(after(["roll 1 1000"], 2), [[0, 1, 807], [0, 1, 1442695040888963407, 0, 807]])

    def test_roll_goes_round_the_modulus(self):
        first = (MOST_TOLD * 6364136223846793005 + 1442695040888963407) % 2 ** 64
        second = (first * 6364136223846793005 + 1442695040888963407) % 2 ** 64
        rows = after(["roll 0 1000000000", "roll 0 6"], 1, MOST_TOLD)
        self.assertEqual(rows[0], [0, 1, (first >> 33) % MOST])
        self.assertEqual(rows[1:], [[0, 2, (second >> 33) % 6], [0, 2, second, (second >> 33) % 6]])

    def test_rolls_in_a_row(self):
        chance = 12345
        rows = after(["roll 0 1000000000"] * 100, 1, chance)
        for row in rows[:-1]:
            chance = (chance * 6364136223846793005 + 1442695040888963407) % 2 ** 64
            self.assertEqual(row[2], chance // 2 ** 33 % MOST)
        self.assertEqual(rows[-1][2], chance)

    def test_roll_of_1_and_of_0(self):
        rows = after(["set 0 5", "roll 0 0", "roll 0 1"], 1)
        self.assertEqual(rows[1:], [[-4], [0, 2, 0], [0, 2, 1442695040888963407, 0]])

    def test_a_roll_of_0_leaves_the_chance(self):
        self.assertEqual(after(["roll 0 0"], 1, 77), [[-4], [0, 0, 77, 0]])


class Cells(unittest.TestCase):
    def test_a_cell_that_is_not_there(self):
        texts = ["set 2 1", "add 2 1", "take 2 0", "roll 2 5", "swap 2 0", "swap 0 2", "swap 2 2",
                 "move 2 0 0", "move 0 2 0", "set 1000000000 1", "set 16 0"]
        for text in texts:
            self.assertEqual(after([text], 2, 5), [[-4], [0, 0, 5, 0, 0]], text)

    def test_the_last_cell(self):
        self.assertEqual(after(["set 15 1"], 16)[0], [0, 1, 1])
        self.assertEqual(after(["set 16 1"], 16)[0], [-4])
        self.assertEqual(after(["set 0 1"], 1)[0], [0, 1, 1])
        self.assertEqual(after(["set 1 1"], 1)[0], [-4])


class NoSentence(unittest.TestCase):
    def check(self, texts):
        for text in texts:
            self.assertEqual(last(new(4), say(text)), [-1], text)

    def test_empty_or_blanks_alone(self):
        self.check(["", " ", "   "])

    def test_other_words(self):
        self.check(["put 0 1", "Set 0 1", "SET 0 1", "sett 0 1", "se 0 1", "0 1", "set0 1", "rol 0 1", "new 1 1"])

    def test_too_few_or_too_many_numbers(self):
        self.check(["set", "set 0", "set 0 1 2", "add 0", "add 0 1 2", "take 0", "take 0 1 2", "move 0 1",
                    "move 0 1 2 3", "swap 0", "swap 0 1 2", "roll 0", "roll 0 1 2"])

    def test_blanks_elsewhere(self):
        self.check([" set 0 1", "set 0 1 ", "set  0 1", "set 0  1", "set 0 ", "set  0", "set 01"])

    def test_other_bytes_between(self):
        self.check(["set\t0\t1", "set 0\t1", "set 0 1\n", "\nset 0 1", "set 0\n1", "set,0,1", "set 0 1\r",
                    bytes_of("set 0 1") + [0], [115, 101, 116, 160, 48, 32, 49]])

    def test_0_before_other_digits(self):
        self.check(["set 00 1", "set 0 01", "set 0 00", "set 01 1", "move 0 1 02", "set 0 0000000001"])

    def test_numbers_that_are_none(self):
        self.check(["set 0 -1", "set -0 1", "set 0 +1", "set 0 1.0", "set 0 1e3", "set 0 x", "set 0 1_0", "set a 1",
                    "set 0 0x1", "set 0 1/", "set 0 1:", "set 0 /", "set 0 :", "set 0 -",
                    bytes_of("set 0 ") + [194, 178], bytes_of("set 0 ") + [178], bytes_of("set 0 ") + [255]])

    def test_numbers_beyond_most(self):
        self.check(["set 0 1000000001", "set 1000000001 0", "move 0 1 1000000001", "roll 0 1000000001",
                    "swap 0 1000000001", "set 0 9999999999", "set 0 10000000000", "set 0 18446744073709551616"])
        self.assertEqual(last(new(1), say("set 0 1000000000")), [0, 1, MOST])

    def test_as_long_as_a_sentence_may_be(self):
        self.check(["set 0 " + "9" * 94, "s" * 100, " " * 100, "set" + " 0" * 48, "set 0 " + "0" * 94, [255] * 100])

    def test_a_refused_one_leaves_all_as_it_was(self):
        rows = run(new(1, 3), say("set 0 9"), say("set 0"), STATE, say("set 0 8"))
        self.assertEqual(rows[2:], [[-1], [0, 1, 3, 9], [0, 2, 8]])


if __name__ == "__main__":
    unittest.main()
