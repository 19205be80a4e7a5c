import unittest

from helpers import (MOST_TOLD, PATH, REDO, SCRIPT, STATE, bytes_of, goto, hold, last, merge, new, run, say, text_of,
                     undo)

X = (7 * 6364136223846793005 + 1442695040888963407) % 2 ** 64
WAY = [new(2, 7), say("set 0 5"), say("move 0 1 2"), say("roll 0 6")]
SCRIPT_OF_WAY = f"set 0 5\n= 5\nmove 0 1 2\n= 3 2\nroll 0 6\n= {(X >> 33) % 6}\n"


def scripted(*calls):
    return text_of(last(*calls, SCRIPT))


class Script(unittest.TestCase):
    def test_at_the_root(self):
        self.assertEqual(last(new(3, 5), SCRIPT), [0])
        self.assertEqual(last(*WAY, undo(3), SCRIPT), [0])

    def test_below_the_root(self):
        self.assertEqual(scripted(*WAY), SCRIPT_OF_WAY)

    def test_the_very_numbers(self):
        self.assertEqual(last(new(1), say("add 0 7"), SCRIPT), [0, 97, 100, 100, 32, 48, 32, 55, 10, 61, 32, 55, 10])

    def test_values_in_the_order_named(self):
        texts = ["set 2 1000000000", "move 2 0 4", "swap 2 0", "swap 1 1", "take 0 999999990", "add 1 0"]
        self.assertEqual(scripted(new(3), *[say(text) for text in texts]),
                         "set 2 1000000000\n= 1000000000\nmove 2 0 4\n= 999999996 4\nswap 2 0\n= 4 999999996\n"
                         "swap 1 1\n= 0 0\ntake 0 999999990\n= 6\nadd 1 0\n= 0\n")

    def test_only_the_way_here(self):
        calls = [new(1), say("set 0 1"), say("set 0 2"), undo(1), say("add 0 3"), say("set 0 4"), undo(1)]
        self.assertEqual(scripted(*calls), "set 0 1\n= 1\nadd 0 3\n= 4\n")
        self.assertEqual(scripted(*calls, goto(2)), "set 0 1\n= 1\nset 0 2\n= 2\n")

    def test_behind_a_merge(self):
        calls = [new(2), say("set 0 1"), say("add 0 4"), undo(2), say("set 1 2"), merge(2)]
        self.assertEqual(scripted(*calls), "set 1 2\n= 2\nset 0 1\n= 1\nadd 0 4\n= 5\n")

    def test_it_changes_nothing(self):
        rows = run(*WAY, undo(1), SCRIPT, STATE, REDO, SCRIPT, SCRIPT)
        self.assertEqual(rows[6:8], [[0, 2, 7, 3, 2], [0, 3]])
        self.assertEqual(rows[8], rows[9])

    def test_300_sentences(self):
        wanted = "".join(f"add 0 1\n= {value}\n" for value in range(1, 301))
        self.assertEqual(scripted(new(1), *[say("add 0 1")] * 300), wanted)


class Hold(unittest.TestCase):
    def check(self, wanted, *texts, cells=2, seed=7):
        for text in texts:
            self.assertEqual(last(new(cells, seed), hold(text)), [0] + wanted, text)

    def test_what_script_gave(self):
        self.check([1], SCRIPT_OF_WAY)
        self.assertEqual(last(*WAY, hold(SCRIPT_OF_WAY)), [0, 1])

    def test_the_empty_text(self):
        self.check([1], "")

    def test_from_the_first_world_wherever_one_is(self):
        for k in (1, 2, 3):
            self.assertEqual(run(*WAY, undo(k), hold(SCRIPT_OF_WAY), hold("add 0 1\n= 1\n"))[5:], [[0, 1], [0, 1]])

    def test_with_the_session_s_cells_and_seed(self):
        self.check([0, 6], SCRIPT_OF_WAY.replace(f"= {(X >> 33) % 6}\n", f"= {(X >> 33) % 6 + 1}\n"))
        self.check([0, 3], SCRIPT_OF_WAY, cells=1)
        roll = "roll 0 1000000000\n= 167951807\n"
        self.check([1], roll, cells=1, seed=0)
        self.check([0, 2], roll, cells=1, seed=1)
        self.assertEqual(last(new(1, 0), say("roll 0 5"), hold(roll)), [0, 1])

    def test_beyond_300_sentences(self):
        text = "".join(f"add 0 1\n= {value}\n" for value in range(1, 1001))
        self.check([1], text)
        self.check([0, 2001], text + "take 0 1001\n")
        self.check([0, 2002], text + "add 0 1\n")
        self.check([0, 2002], text + "add 0 1\n= 1002\n")
        self.assertEqual(last(new(1), *[say("add 0 1")] * 300, hold(text)), [0, 1])

    def test_a_last_byte_that_is_not_10(self):
        self.check([0, 1], "x", "set 0 5", " ", [255], [11])
        self.check([0, 2], "set 0 5\n=", "set 0 5\n= 5", "\n ", "set 0 5\n= 5 ")
        self.check([0, 3], "set 0 5\n= 5\nset", "set 0 5\n= 5\nset 0 6", "\n\nx")
        self.check([0, 6], SCRIPT_OF_WAY[:-1])
        self.check([0, 7], SCRIPT_OF_WAY + "x")

    def test_a_last_byte_that_is_not_10_before_all_others(self):
        self.check([0, 3], "x\ny\nz", "set 0\n= 5\nz", "set 0 5\n= 6\nset", "take 0 1\n= 0\nx", "\n\nset 0 5")
        self.check([0, 2], "x\ny", "take 0 1\n= 0")

    def test_lines_that_are_no_sentence(self):
        for line in ("", " ", "x", "set 0", "set 0 5 ", " set 0 5", "set 00 5", "set 0 1000000001", "Set 0 5", "= 5",
                     "story 2 7", "set 0 5\r", "set  0 5", "x" * 15000):
            self.check([0, 1], line + "\n", line + "\n= 5\n", line + "\n\n\n")
            self.check([0, 3], f"set 0 5\n= 5\n{line}\n", f"set 0 5\n= 5\n{line}\n= 5\n")
            self.check([0, 7], SCRIPT_OF_WAY + line + "\n")

    def test_sentences_that_the_story_refuses(self):
        for line in ("take 0 6", "move 0 0 1", "move 1 0 1", "roll 0 0", "set 2 1", "swap 0 2", "add 0 999999996"):
            self.check([0, 3], f"set 0 5\n= 5\n{line}\n", f"set 0 5\n= 5\n{line}\n= 0\n", f"set 0 5\n= 5\n{line}\nx\n")
        self.check([0, 1], "take 0 1\n", "take 0 1\n= 0\n", "roll 0 0\n= 0\n")

    def test_lines_that_are_not_what_is_told(self):
        for line in ("", "=", "= ", "= 6", "=5", "5", " = 5", "= 5 ", "=  5", "= 05", "= 5 0", "= 5\r", "= -5", "=\t5", "= 55",
                     "set 0 5", "= 5.", "\0= 5"):
            self.check([0, 2], f"set 0 5\n{line}\n", f"set 0 5\n{line}\nset 0 5\n= 5\n", f"set 0 5\n{line}\nx\n")

    def test_values_in_another_order_or_too_few_or_too_many(self):
        self.check([1], "set 0 5\n= 5\nmove 0 1 2\n= 3 2\n")
        for line in ("= 2 3", "= 3", "= 3 2 0", "= 3 2 ", "= 3  2", "= 5 2", "= 3 0", "= 32"):
            self.check([0, 4], f"set 0 5\n= 5\nmove 0 1 2\n{line}\n")
        self.check([1], "set 0 5\n= 5\nswap 1 0\n= 5 0\nswap 0 0\n= 0 0\n")
        self.check([0, 6], "set 0 5\n= 5\nswap 1 0\n= 5 0\nswap 0 0\n= 0\n")

    def test_the_first_of_several(self):
        self.check([0, 2], "set 0 5\n= 4\ntake 0 9\n= 0\nx\n")
        self.check([0, 1], "x\n= 4\ny\n")
        self.check([0, 4], "set 0 5\n= 5\nadd 0 1\n= 7\nx\n\n")

    def test_a_last_sentence_with_no_line_behind_it(self):
        self.check([0, 2], "set 0 5\n")
        self.check([0, 4], "set 0 5\n= 5\nadd 0 1\n")
        self.check([0, 8], SCRIPT_OF_WAY + "swap 0 1\n")

    def test_a_last_sentence_that_is_refused_with_no_line_behind_it(self):
        self.check([0, 1], "take 0 5\n")
        self.check([0, 3], "set 0 5\n= 5\ntake 0 6\n")

    def test_a_line_too_many(self):
        self.check([0, 3], "set 0 5\n= 5\n\n", "set 0 5\n= 5\n= 5\n")
        self.check([0, 1], "\n", "\n\n", "\nset 0 5\n= 5\n")

    def test_a_long_text(self):
        self.check([0, 1], "\n" * 16000)
        self.check([0, 16000], "\n" * 15999 + "x")
        self.check([0, 1], "x" * 16000)

    def test_nothing_changes(self):
        texts = [SCRIPT_OF_WAY, "", "x", "x\n", "take 0 1\n", "set 0 9\n= 8\n", "set 1 9\n", "set 1 9\n= 9\nroll 1 5\n"]
        for text in texts:
            rows = run(*WAY, undo(1), STATE, PATH, hold(text), STATE, PATH, REDO, say("set 0 1"))
            self.assertEqual(rows[8:10], rows[5:7], text)
            self.assertEqual(rows[10:], [[0, 3], [0, 4, 1]], text)
        rows = run(new(1, MOST_TOLD), *[hold("roll 0 5\n")] * 3, STATE, hold("add 0 1\n= 1\n"), hold("add 0 1\n= 1\n"))
        self.assertEqual(rows[1:], [[0, 0, 2]] * 3 + [[0, 0, MOST_TOLD, 0], [0, 1], [0, 1]])

    def test_a_text_as_bytes(self):
        self.assertEqual(last(new(2), hold(bytes_of("set 0 5\n= 5\n") + [0, 10])), [0, 0, 3])


if __name__ == "__main__":
    unittest.main()
