import unittest

from helpers import (MOST_TOLD, PATH, REDO, SAVE, STATE, bytes_of, children, delta, goto, last, load, merge, new, prune,
                     run, say, sum_by_hand, summed, text_of, total, undo)

BODY = "story 2 7\nset 0 5\nmove 0 1 2\nroll 0 6\n"
WAY = [new(2, 7), say("set 0 5"), say("move 0 1 2"), say("roll 0 6")]
X = (7 * 6364136223846793005 + 1442695040888963407) % 2 ** 64
BEHIND = [0, 3, X, (X >> 33) % 6, 2]


def saved(*calls):
    return text_of(last(*calls, SAVE))


class Sum(unittest.TestCase):
    def check(self, text, wanted):
        self.assertEqual(last(new(1), total(text)), [0, wanted])

    def test_the_empty_text(self):
        self.check("", 0)

    def test_places_count_from_1(self):
        self.check([1], 1)
        self.check([255], 255)
        self.check([0, 1], 2)
        self.check([3, 5, 7], 3 + 10 + 21)
        self.check("ab\n", 97 + 196 + 30)

    def test_around_the_modulus(self):
        # 255 at the place 256 is 65280.
        self.check([240] + [0] * 254 + [255], 65520)
        self.check([241] + [0] * 254 + [255], 0)
        self.check([242] + [0] * 254 + [255], 1)

    def test_long_texts(self):
        self.check([0] * 16000, 0)
        self.check([255] * 16000, 255 * 16000 * 16001 // 2 % 65521)
        self.check([0] * 15999 + [1], 16000)
        text = [place * place % 256 for place in range(16000)]
        self.check(text, sum_by_hand(text))

    def test_bytes_that_change_places(self):
        self.check("ab", 97 + 2 * 98)
        self.check("ba", 98 + 2 * 97)

    def test_it_changes_nothing(self):
        self.assertEqual(run(*WAY, total(BODY), STATE)[4:], [[0, sum_by_hand(BODY)], BEHIND])


class Save(unittest.TestCase):
    def test_at_the_root(self):
        # story 2 7 and a byte 10: 115 + 232 + 333 + 456 + 605 + 192 + 350 + 256 + 495 + 100.
        self.assertEqual(saved(new(2, 7)), "story 2 7\nsum 3134\n")

    def test_below_the_root(self):
        self.assertEqual(saved(*WAY), summed(BODY))

    def test_the_very_numbers(self):
        self.assertEqual(last(*WAY, SAVE), [0] + bytes_of(summed(BODY)))

    def test_all_sentences(self):
        texts = ["set 0 1000000000", "take 0 5", "add 1 0", "move 0 15 10", "swap 15 3", "swap 2 2", "roll 7 1000000000"]
        body = f"story 16 {MOST_TOLD}\n" + "".join(text + "\n" for text in texts)
        self.assertEqual(saved(new(16, MOST_TOLD), *[say(text) for text in texts]), summed(body))

    def test_the_seed_not_the_chance_of_now(self):
        self.assertTrue(saved(new(1, 7), say("roll 0 6"), say("roll 0 6")).startswith("story 1 7\n"))
        self.assertTrue(saved(new(1, 0)).startswith("story 1 0\n"))

    def test_only_the_way_here(self):
        calls = [new(1), say("set 0 1"), say("set 0 2"), undo(1), say("set 0 3"), say("set 0 4"), undo(1)]
        self.assertEqual(saved(*calls), summed("story 1 0\nset 0 1\nset 0 3\n"))
        self.assertEqual(saved(*calls, goto(0)), summed("story 1 0\n"))
        self.assertEqual(saved(*calls, goto(2)), summed("story 1 0\nset 0 1\nset 0 2\n"))

    def test_behind_a_merge(self):
        calls = [new(2), say("set 0 1"), undo(1), say("set 1 2"), merge(1)]
        self.assertEqual(saved(*calls), summed("story 2 0\nset 1 2\nset 0 1\n"))

    def test_it_changes_nothing(self):
        rows = run(*WAY, undo(1), SAVE, STATE, REDO, SAVE, SAVE)
        self.assertEqual(rows[6], [0, 2, 7, 3, 2])
        self.assertEqual(rows[7], [0, 3])
        self.assertEqual(rows[8], rows[9])

    def test_300_of_the_longest(self):
        texts = ["set 15 1000000000"] + ["move 15 14 1000000000", "move 14 15 1000000000"] * 149 + ["set 10 1000000000"]
        body = f"story 16 {MOST_TOLD}\n" + "".join(text + "\n" for text in texts)
        self.assertEqual(saved(new(16, MOST_TOLD), *[say(text) for text in texts]), summed(body))


class Load(unittest.TestCase):
    def test_what_save_gave(self):
        text = saved(*WAY)
        self.assertEqual(run(load(text), STATE, PATH), [[0, 3], BEHIND, [0, 1, 2, 3]])
        self.assertEqual(run(load(text), SAVE), [[0, 3], [0] + bytes_of(text)])

    def test_a_root(self):
        self.assertEqual(run(load(summed("story 3 8\n")), STATE, PATH, children(0), REDO),
                         [[0, 0], [0, 0, 8, 0, 0, 0], [0], [0], [-4]])

    def test_takes_the_place_of_the_session_before(self):
        rows = run(new(4, 1), say("set 3 9"), undo(1), say("set 2 9"), say("set 2 8"), load(summed("story 1 5\nset 0 6\n")),
                   STATE, PATH, children(0), goto(2), delta(1), say("add 0 1"), goto(3))
        self.assertEqual(rows[5:], [[0, 1], [0, 1, 5, 6], [0, 1], [0, 1], [-4], [0, 0, 0, 6], [0, 2, 7], [-4]])

    def test_numbers_begin_anew(self):
        calls = [new(1), say("set 0 1"), undo(1), say("set 0 2"), undo(1), prune(1), say("set 0 3")]
        self.assertEqual(run(*calls, load(saved(*calls)), PATH, say("set 0 4"))[len(calls):], [[0, 1], [0, 1], [0, 2, 4]])

    def test_its_sentences_are_gone_to(self):
        rows = run(load(summed(BODY)), goto(0), REDO, REDO, REDO, REDO)
        self.assertEqual(rows[2:], [[0, 1], [0, 2], [0, 3], [-4]])

    def test_the_least_and_the_most_cells_and_seeds(self):
        self.assertEqual(run(load(summed("story 1 0\n")), STATE), [[0, 0], [0, 0, 0, 0]])
        self.assertEqual(run(load(summed(f"story 16 {MOST_TOLD}\n")), STATE), [[0, 0], [0, 0, MOST_TOLD] + [0] * 16])

    def test_300_sentences(self):
        rows = run(load(summed("story 1 0\n" + "add 0 1\n" * 300)), STATE, PATH, say("add 0 1"), SAVE)
        self.assertEqual(rows[:4], [[0, 300], [0, 300, 0, 300], [0] + list(range(1, 301)), [-5]])
        self.assertEqual(text_of(rows[4]), summed("story 1 0\n" + "add 0 1\n" * 300))

    def test_within_a_full_session(self):
        full = [new(1)] + [say("add 0 1")] * 300
        self.assertEqual(run(*full, load(summed("story 1 0\n" + "add 0 1\n" * 300)), undo(300), say("set 0 1"))[301:],
                         [[0, 300], [0, 0], [-5]])
        self.assertEqual(run(*full, load(summed("story 1 0\n" + "add 0 1\n" * 299)), say("set 0 1"))[301:],
                         [[0, 299], [0, 300, 1]])

    def test_what_is_said_in_a_cell_that_is_not_written_stays_0(self):
        self.assertEqual(run(new(2), say("set 1 9"), load(summed("story 2 0\nset 0 1\n")), STATE)[2:],
                         [[0, 1], [0, 1, 0, 1, 0]])


class RefusedLoad(unittest.TestCase):
    def check(self, refusal, *texts):
        """Refused with and without a session, and all is as it was."""
        for text in texts:
            self.assertEqual(run(load(text), STATE, load(text)), [[refusal], [-7], [refusal]], text)
            self.assertEqual(run(*WAY, undo(1), load(text), STATE, PATH, REDO, say("set 0 1"))[5:],
                             [[refusal], [0, 2, 7, 3, 2], [0, 1, 2], [0, 3], [0, 4, 1]], text)

    def test_empty_or_bytes_10_alone(self):
        self.check(-2, "", "\n", "\n\n", "\n\n\n")

    def test_a_last_byte_that_is_not_10(self):
        self.check(-2, summed(BODY)[:-1], summed(BODY) + " ", summed(BODY)[:-1] + "\r", summed(BODY) + "x")
        self.check(-2, bytes_of(summed(BODY)[:-1]) + [11])

    def test_a_line_behind_the_sum(self):
        self.check(-2, summed(BODY) + "\n", summed(BODY) + "set 0 1\n", summed(summed(BODY)), summed(BODY) * 2)

    def test_no_line_for_the_sum(self):
        self.check(-2, BODY, "story 2 7\n", "story 2 7\nset 0 5\n")

    def test_no_line_for_the_story(self):
        self.check(-2, "sum 0\n", summed("set 0 5\n"), summed("\n"), summed("\nstory 2 7\n"), summed("set 0 5\nstory 2 7\n"))

    def test_other_words(self):
        for word in ("Story", "STORY", "stor", "storys", "tale", "", "sum", "set", "new"):
            self.check(-2, summed(f"{word} 2 7\n"))
        for word in ("Sum", "SUM", "su", "sums", "total", "", "story", "set"):
            self.check(-2, f"{BODY}{word} {sum_by_hand(BODY)}\n")

    def test_blanks(self):
        for line in (" story 2 7", "story  2 7", "story 2  7", "story 2 7 ", "story\t2 7", "story 2\t7", "story2 7", "story 27"):
            self.check(-2, summed(line + "\n"))
        right = sum_by_hand(BODY)
        for line in (f" sum {right}", f"sum  {right}", f"sum {right} ", f"sum\t{right}", f"sum{right}", "sum ", "sum"):
            self.check(-2, BODY + line + "\n")
        for line in (" set 0 5", "set  0 5", "set 0 5 ", "set 0 5\t", "set 0 5\r", " ", ""):
            self.check(-2, summed(f"story 2 7\n{line}\n"))

    def test_too_few_or_too_many_numbers(self):
        self.check(-2, summed("story\n"), summed("story 2\n"), summed("story 2 7 1\n"), summed("story 2 7 set 0 1\n"))
        self.check(-2, f"{BODY}sum {sum_by_hand(BODY)} 0\n")

    def test_0_before_other_digits(self):
        self.check(-2, summed("story 02 7\n"), summed("story 2 07\n"), summed("story 2 00\n"), summed("story 2 7\nset 00 5\n"),
                   summed("story 2 7\nset 0 05\n"), f"{BODY}sum 0{sum_by_hand(BODY)}\n", BODY + "sum 00\n")

    def test_numbers_that_are_none(self):
        self.check(-2, summed("story -2 7\n"), summed("story +2 7\n"), summed("story x 7\n"), summed("story 2 -7\n"),
                   summed("story 2 7.0\n"), summed("story 2 1e3\n"), summed("story 2 1_0\n"), BODY + "sum -1\n",
                   BODY + "sum x\n", f"{BODY}sum +{sum_by_hand(BODY)}\n", f"{BODY}sum {sum_by_hand(BODY)}.\n")

    def test_cells_outside_of_their_range(self):
        self.check(-2, summed("story 0 7\n"), summed("story 17 7\n"), summed("story 160 7\n"), summed("story 1000000000000 7\n"))

    def test_seeds_outside_of_their_range(self):
        self.check(-2, summed(f"story 2 {MOST_TOLD + 1}\n"), summed(f"story 2 {MOST_TOLD}0\n"),
                   summed(f"story 2 {2 ** 64 - 1}\n"), summed("story 2 " + "9" * 15000 + "\n"))

    def test_a_line_that_is_no_sentence(self):
        for line in ("put 0 1", "set 0", "set 0 1 2", "Set 0 1", "set 0 1000000001", "set 1000000001 0", "move 0 1", "= 5",
                     "story 2 7", "sum 5", "x", "set 0 -1"):
            self.check(-2, summed(f"story 2 7\n{line}\n"), summed(f"story 2 7\nset 0 1\n{line}\n"),
                       summed(f"story 2 7\n{line}\nset 0 1\n"))

    def test_bytes_that_are_no_signs(self):
        for byte in (0, 13, 128, 160, 255):
            body = bytes_of("story 2 7\nset 0 5") + [byte, 10]
            self.check(-2, body + bytes_of(f"sum {sum_by_hand(body)}\n"))

    def test_sums_of_65521_and_of_65522(self):
        self.check(-3, BODY + "sum 65520\n", BODY + "sum 65521\n")
        self.check(-2, BODY + "sum 65522\n", BODY + "sum 65530\n", BODY + "sum 100000\n", BODY + "sum 655210\n")

    def test_a_sum_of_0_told_as_65521(self):
        body = "story 1 20270\n" + "set 0 1\n" * 8 + "set 0 141890\n" * 6
        self.assertEqual(sum_by_hand(body), 0)
        self.assertEqual(last(load(body + "sum 0\n")), [0, 14])
        self.check(-3, body + "sum 65521\n")

    def test_a_wrong_sum(self):
        right = sum_by_hand(BODY)
        self.check(-3, f"{BODY}sum {right + 1}\n", f"{BODY}sum {right - 1}\n", BODY + "sum 0\n", BODY + "sum 1\n")

    def test_a_sum_of_more_or_less_than_what_is_before_its_line(self):
        self.check(-3, f"{BODY}sum {sum_by_hand(BODY[:-1])}\n", f"{BODY}sum {sum_by_hand(BODY + 'sum ')}\n",
                   f"{BODY}sum {sum_by_hand(BODY[BODY.index('set'):])}\n")

    def test_lines_that_changed_places(self):
        text = summed("story 2 7\nset 0 5\nset 0 6\n")
        self.check(-3, text.replace("set 0 5\nset 0 6\n", "set 0 6\nset 0 5\n"))

    def test_no_single_changed_byte_gets_past(self):
        text = bytes_of(summed("story 2 7\nset 0 5\n"))
        for place in range(len(text)):
            calls = [load(text[:place] + [byte] + text[place + 1:]) for byte in range(256) if byte != text[place]]
            for row in run(*calls):
                self.assertIn(row, ([-2], [-3]))

    def test_a_sentence_that_the_story_refuses(self):
        for line in ("take 0 1", "add 1 1000000000", "move 0 0 0", "move 0 1 1", "roll 0 0", "set 2 1", "swap 0 2",
                     "set 1000000000 1"):
            self.check(-4, summed(f"story 2 7\nset 1 1\n{line}\n"), summed(f"story 2 7\nset 1 1\n{line}\nset 0 1\n"))

    def test_sentences_are_held_against_the_world_so_far(self):
        self.assertEqual(last(load(summed("story 1 0\nadd 0 4\ntake 0 4\n"))), [0, 2])
        self.check(-4, summed("story 1 0\ntake 0 4\nadd 0 4\n"), summed("story 1 0\nadd 0 4\ntake 0 4\ntake 0 1\n"))

    def test_301_sentences(self):
        self.check(-5, summed("story 1 0\n" + "add 0 1\n" * 301), summed("story 1 0\n" + "add 0 1\n" * 1995))

    def test_no_save_before_all_others(self):
        self.check(-2, "story 1 0\nset 0\nsum 1\n", "story 1 0\ntake 0 1\nset 0\nsum 1\n", "story 0 0\ntake 0 1\nsum 1\n",
                   "story 1 0\n" + "add 0 1\n" * 301 + "take 0 999\nsum 65522\n",
                   summed("story 1 0\n" + "add 0 1\n" * 301 + "add 0\n"))

    def test_a_wrong_sum_before_what_the_story_refuses(self):
        self.check(-3, "story 1 0\ntake 0 1\nsum 1\n", "story 1 0\n" + "add 0 1\n" * 301 + "sum 1\n",
                   "story 1 0\n" + "add 0 1\n" * 301 + "take 0 999\nsum 1\n")

    def test_what_the_story_refuses_before_no_place(self):
        self.check(-4, summed("story 1 0\n" + "add 0 1\n" * 300 + "take 0 301\n"),
                   summed("story 1 0\ntake 0 1\n" + "add 0 1\n" * 301),
                   summed("story 1 0\n" + "add 0 1\n" * 1990 + "take 0 1991\n"))


if __name__ == "__main__":
    unittest.main()
