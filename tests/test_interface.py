import unittest

from helpers import (MOST_TOLD, PATH, REDO, SAVE, SCRIPT, STATE, bytes_of, children, delta, diff, goto, hold, load, merge,
                     new, prune, row_of, run, say, summed, text_of, total, undo)
from sessiontree.story import answers


class NoSession(unittest.TestCase):
    def test_every_call_but_new_and_load(self):
        calls = [say("set 0 1"), undo(1), REDO, goto(0), STATE, PATH, children(0), delta(1), diff(0, 0), merge(0), SAVE,
                 total("ab"), SCRIPT, hold("=\n"), prune(1)]
        self.assertEqual(run(*calls), [[-7]] * len(calls))
        for call in calls:
            # What stands behind shows where the call was taken to end.
            self.assertEqual(run(call, new(1), STATE), [[-7], [0], [0, 0, 0, 0]], call)

    def test_whatever_it_says(self):
        calls = [say("no sentence"), say(""), say("set 99 1"), undo(0), undo(-MOST_TOLD), goto(-1), goto(5),
                 children(-1), delta(0), diff(-1, 7), merge(-MOST_TOLD), merge(5), total(""), total([255] * 99), hold(""),
                 hold("x"), hold("set 0 1\n= 1\n"), prune(0), prune(-1), prune(MOST_TOLD)]
        self.assertEqual(run(*calls), [[-7]] * len(calls))

    def test_behind_a_refused_new(self):
        self.assertEqual(run(new(0), STATE, new(1, -1), STATE, new(1), STATE),
                         [[-1], [-7], [-1], [-7], [0], [0, 0, 0, 0]])


    def test_load_begins_one(self):
        self.assertEqual(run(STATE, load(summed("story 1 5\nset 0 2\n")), STATE), [[-7], [0, 1], [0, 1, 5, 2]])

    def test_behind_a_refused_load(self):
        texts = ["", "story 1 5\nsum 1\n", summed("story 1 5\ntake 0 1\n"), summed("story 1 5\n" + "add 0 1\n" * 301)]
        for text, refusal in zip(texts, (-2, -3, -4, -5), strict=True):
            self.assertEqual(run(load(text), SAVE, hold(""), STATE, new(1), STATE),
                             [[refusal], [-7], [-7], [-7], [0], [0, 0, 0, 0]])


class Rows(unittest.TestCase):
    CALLS = row_of([new(2, 5), say("set 0 3"), say("swap 0 1"), say(""), undo(1), say("roll 1 7"), goto(2), delta(2),
                    children(1), REDO, undo(9), STATE, PATH, diff(0, 3), goto(0), merge(2), merge(3), SAVE, SCRIPT, prune(1),
                    prune(9), total("ab"), total(""), hold("set 0 3\n= 3\n"), hold("set 0 3\n= 4\n"), load("story 1 1\n"),
                    load(summed("story 3 1\nset 2 2\nroll 0 9\n")), SAVE, SCRIPT, undo(1), prune(2), STATE])

    def test_the_very_numbers_in_and_out(self):
        given = answers([0, 2, 7, 1, 7, 115, 101, 116, 32, 49, 32, 57, 5, 8, 1, 1, 0, 6, 2, 1, 3, 3])
        self.assertEqual(given, [1, 0, 3, 0, 1, 9, 5, 0, 1, 7, 0, 9, 4, 0, 1, 0, 9, 1, -1, 2, 0, 1, 2, 0, 0,
                                 2, 0, 1, 1, -4])

    def test_the_very_numbers_of_the_calls_9_to_16(self):
        given = answers([0, 1, 0, 9, 0, 0, 10, 0, 11, 12, 1, 10, 13, 2, 1, 2, 14, 15, 1, 10, 16, 0, 13, 0, 15, 0, 16, 1, 5])
        save = bytes_of(summed("story 1 0\n"))
        self.assertEqual(given, [1, 0, 1, 0, 3, 0, 0, 0, 1 + len(save), 0] + save +
                         [1, -2, 2, 0, 5, 1, 0, 3, 0, 0, 1, 1, -3, 2, 0, 0, 2, 0, 1, 1, -4, 4, 0, 0, 0, 0])

    def test_one_call(self):
        self.assertEqual(answers([5]), [1, -7])
        self.assertEqual(answers([0, 1, 0]), [1, 0])

    def test_a_text_that_looks_like_calls(self):
        self.assertEqual(run(new(1), say([0, 1, 0, 5, 6]), say([5]), STATE), [[0], [-1], [-1], [0, 0, 0, 0]])

    def test_whole_numbers_alone_come_back(self):
        given = answers(self.CALLS)
        self.assertIs(type(given), list)
        self.assertEqual({type(number) for number in given}, {int})

    def test_what_is_handed_in_stays_as_it_was(self):
        calls = list(self.CALLS)
        given = answers(calls)
        self.assertEqual(calls, self.CALLS)
        given.clear()
        self.assertEqual(calls, self.CALLS)

    def test_what_is_handed_in_is_not_changed_for_a_while_either(self):
        class Watched(list):
            def changed(self, *given, **named):
                raise AssertionError("the list that was handed in is changed")

            append = extend = insert = pop = remove = clear = sort = reverse = changed
            __setitem__ = __delitem__ = __iadd__ = __imul__ = changed

        self.assertEqual(answers(Watched(self.CALLS)), answers(list(self.CALLS)))

    def test_a_second_time_is_as_the_first(self):
        first = answers(list(self.CALLS))
        self.assertEqual(answers([5]), [1, -7])
        self.assertEqual(answers(list(self.CALLS)), first)

    def test_answers_given_before_stay_as_they_were(self):
        first = answers(list(self.CALLS))
        kept = list(first)
        answers(list(self.CALLS))
        self.assertEqual(first, kept)

    def test_400_calls(self):
        calls = [new(16, MOST_TOLD)] + [say("add 15 1000")] * 300 + [PATH, STATE, undo(300)] * 33
        self.assertEqual(len(calls), 400)
        rows = run(*calls)
        self.assertEqual(rows[301], [0] + list(range(1, 301)))
        self.assertEqual(rows[302], [0, 300, MOST_TOLD] + [0] * 15 + [300000])
        self.assertEqual(rows[303:306], [[0, 0], [0], [0, 0, MOST_TOLD] + [0] * 16])
        self.assertEqual(rows[306], [-4])

    def test_40_saves_and_scripts_of_300_nodes(self):
        texts = ["set 15 1000000000"] + ["move 15 14 1000000000", "move 14 15 1000000000"] * 149 + ["swap 14 15"]
        calls = [new(16, MOST_TOLD)] + [say(text) for text in texts] + [SAVE, SCRIPT] * 20
        rows = run(*calls)
        self.assertEqual(rows[301:], rows[301:303] * 20)
        self.assertEqual(text_of(rows[301]), summed(f"story 16 {MOST_TOLD}\n" + "".join(text + "\n" for text in texts)))
        self.assertEqual(len(text_of(rows[302]).splitlines()), 600)

    def test_texts_as_long_as_may_be(self):
        text = summed("story 1 0\n" + "set 0 1\n" * 1997)
        self.assertEqual(len(text), 15996)
        self.assertEqual(run(new(1), load(text), STATE), [[0], [-5], [0, 0, 0, 0]])
        transcript = "set 0 1\n= 1\n" * 1333
        self.assertEqual(run(new(1), hold(transcript), STATE), [[0], [0, 1], [0, 0, 0, 0]])

    def test_merges_and_prunes_of_long_ways(self):
        before = [load(summed("story 2 0\n" + "add 0 1\n" * 150)), goto(0)]
        rows = run(*before, *[merge(150), STATE, goto(0), prune(151)], *[merge(150), goto(0), children(0)])
        self.assertEqual(rows[2:], [[0, 300, 150], [0, 300, 0, 150, 0], [0], [0, 150], [0, 450, 150], [0], [0, 1, 301]])

    def test_as_many_bytes_as_may_be_said(self):
        longest = bytes_of("set 0 1") + [32] * 93
        rows = run(new(1), *[say(longest)] * 150, STATE)
        self.assertEqual(rows[1:], [[-1]] * 150 + [[0, 0, 0, 0]])


if __name__ == "__main__":
    unittest.main()
