"""The paper of what is found: point [22], and [1] and [2] for it."""

import copy
import itertools
import unittest

from reference import Dice, any_machine, any_prices, any_tree
from someobjects.errors import BadPaper
from someobjects.least import Found, best, fewest_objections, judge
from someobjects.machine import Machine
from someobjects.paper import paper_lines, read_paper, read_ring_paper
from someobjects.ring import best_ring, judge_ring
from someobjects.trees import row_tree

BEST = Found("best", 7, [1, 0, 1], [[0, None], [None, 12], [7, 123456789]], [None, 7])
BEST_LINES = ["best 7", "1 0 1", "0 -", "- 12", "7 123456789", "- 7"]
NONE = Found("none", None, [], [[0, None], [None, None]], [None, None])
NONE_LINES = ["none", "0 -", "- -", "- -"]
RING = Found("best", 3, [1, 0], [[[0, None], [4, 5]], [[None, 0], [None, 1]]], [])
RING_LINES = ["best 3", "1 0", "0 -", "4 5", "- 0", "- 1"]
NO_RING = Found("none", None, [], [[[0, None], [None, None]], [[None, 0], [3, None]]], [])
NO_RING_LINES = ["none", "0 -", "- -", "- 0", "3 -"]
TREES = [(BEST, BEST_LINES, 3), (NONE, NONE_LINES, 2)]
RINGS = [(RING, RING_LINES, 2), (NO_RING, NO_RING_LINES, 2)]
EVERY = [(read_paper, *told) for told in TREES] + [(read_ring_paper, *told) for told in RINGS]
# No word of a line of numbers.
NEVER = ["", "00", "01", "007", "-1", "+1", "--", "-0", "1-", "1.", "1.0", "1e3", "0x1", "1_0", " ", "x", "None",
         "none", "best", "1\n", "\n1", "1\t", "\t", "\n", "1234567890", "10000000000", "0000000000", "9" * 5000, "(1)"]


def number_told(word):
    """A number by the words of point [22], or None."""
    right = 1 <= len(word) <= 9 and set(word) <= set("0123456789") and (word == "0" or not word.startswith("0"))
    return int(word) if right else None


def fits(kind, count, labels, line):
    """Whether a line is of the form of a kind of lines."""
    words = line.split(" ")
    if kind == "first":
        return line == "none" or (len(words) == 2 and words[0] == "best" and number_told(words[1]) is not None)
    if kind == "labels":
        return len(words) == count and all(number_told(word) in range(labels) for word in words)
    return len(words) == labels and all(word == "-" or number_told(word) is not None for word in words)


def place_of_fault(many_rows, count, labels, lines):
    """The index that BadPaper tells, or None, by the definition in point [22]."""
    kinds = ["first"]
    if lines and lines[0] != "none":
        kinds.append("labels")
    kinds += ["row"] * many_rows
    for at, line in enumerate(lines):
        if at == len(kinds) or not fits(kinds[at], count, labels, line):
            return at
    return len(lines) if len(lines) < len(kinds) else None


class PaperCase(unittest.TestCase):
    def wrong(self, at, read, count, labels, lines):
        with self.assertRaises(BadPaper) as caught:
            read(count, labels, lines)
        self.assertEqual(caught.exception.at, at, lines)

    def as_defined(self, read, count, labels, lines):
        rows = count + 1 if read is read_paper else count * labels
        at = place_of_fault(rows, count, labels, lines)
        if at is None:
            self.assertEqual(paper_lines(read(count, labels, lines)), list(lines))
        else:
            self.wrong(at, read, count, labels, lines)
        return at


class Writing(PaperCase):
    def test_of_a_tree(self):
        self.assertEqual(paper_lines(BEST), BEST_LINES)
        self.assertEqual(paper_lines(NONE), NONE_LINES)

    def test_of_a_ring(self):
        self.assertEqual(paper_lines(RING), RING_LINES)
        self.assertEqual(paper_lines(NO_RING), NO_RING_LINES)

    def test_one_person_with_one_label(self):
        self.assertEqual(paper_lines(Found("best", 0, [0], [[0]], [0])), ["best 0", "0", "0", "0"])
        self.assertEqual(paper_lines(Found("none", None, [], [[0]], [None])), ["none", "0", "-"])
        self.assertEqual(paper_lines(Found("best", 5, [0], [[[0]]], [])), ["best 5", "0", "0"])
        self.assertEqual(paper_lines(Found("none", None, [], [[[0]]], [])), ["none", "0"])

    def test_what_is_found(self):
        machine = Machine(1, 2, [(0, [], 0), (0, [0], 1)], [1])
        found = best(machine, row_tree([0, 0]), [[1, 2], [30, 40]], None)
        self.assertEqual(paper_lines(found), ["best 41", "0 1", "1 -", "- 41", "- 41"])
        found = best(machine, row_tree([0, 0, 0]), [[1, 2], [30, 40], [0, 0]], None)
        self.assertEqual(paper_lines(found), ["none", "1 -", "- 41", "- -", "- -"])
        found = best_ring(machine, [0, 0], [[1, 2], [30, 40]], 5)
        self.assertEqual(paper_lines(found), ["best 37", "1 0", "0 -", "35 40", "- 0", "35 45"])

    def test_large_numbers(self):
        found = Found("best", 10 ** 30, [0], [[10 ** 9]], [10 ** 30])
        self.assertEqual(paper_lines(found), ["best 1" + "0" * 30, "0", "1000000000", "1" + "0" * 30])

    def test_a_new_list_each_time(self):
        for _, found, lines, _ in EVERY:
            first = paper_lines(found)
            self.assertIsInstance(first, list)
            first[0] = "x"
            first.append("y")
            self.assertEqual(paper_lines(found), lines)


class Reading(PaperCase):
    def test_ordinary_papers(self):
        for read, found, lines, count in EVERY:
            self.assertEqual(read(count, 2, lines), found)

    def test_parts_are_of_their_kinds(self):
        for read, found, lines, count in EVERY:
            told = read(count, 2, lines)
            self.assertIsInstance(told, Found)
            for part in [told.labels, told.numbers, told.ends, *told.numbers]:
                self.assertIsInstance(part, list)
            self.assertEqual(vars(told), vars(found))
            if read is read_ring_paper:
                for row in [row for run in told.numbers for row in run]:
                    self.assertIsInstance(row, list)

    def test_trees_that_are_written_are_read_again(self):
        dice = Dice(400)
        kinds = []
        for many in [1, 2, 3, 4, 5, 6] * 4:
            for labels, of_ten in [(1, 7), (3, 3), (8, 1)]:
                machine, tree = any_machine(dice, 2, labels, of_ten), any_tree(dice, 2, many)
                prices = any_prices(dice, many, labels, 10 ** 6)
                for fine in [None, 0, 12345]:
                    found = best(machine, tree, prices, fine)
                    again = read_paper(many, labels, paper_lines(found))
                    self.assertEqual(again, found)
                    self.assertIs(judge(machine, tree, prices, fine, again), True)
                    kinds.append(found.kind)
        self.assertEqual(set(kinds), {"best", "none"})

    def test_rings_that_are_written_are_read_again(self):
        dice = Dice(401)
        kinds = []
        for many in [1, 2, 3, 4, 5] * 4:
            for labels, of_ten in [(1, 5), (3, 3), (8, 1)]:
                machine, ring = any_machine(dice, 2, labels, of_ten), [dice.below(2) for _ in range(many)]
                prices = any_prices(dice, many, labels, 10 ** 6)
                for fine in [None, 0, 12345]:
                    found = best_ring(machine, ring, prices, fine)
                    again = read_ring_paper(many, labels, paper_lines(found))
                    self.assertEqual(again, found)
                    self.assertIs(judge_ring(machine, ring, prices, fine, again), True)
                    kinds.append(found.kind)
        self.assertEqual(set(kinds), {"best", "none"})

    def test_200_people_and_a_few_more(self):
        machine = Machine(1, 3, [(0, [], 0), (0, [0], 1), (0, [1], 2), (0, [2], 0)], [0])
        for many in [199, 200, 204]:
            found = fewest_objections(machine, row_tree([0] * many))
            self.assertEqual(read_paper(many, 3, paper_lines(found)), found)
            found = best_ring(machine, [0] * many, [[1, 2, 3]] * many, 7)
            lines = paper_lines(found)
            self.assertEqual(len(lines), 2 + 3 * many)
            self.assertEqual(read_ring_paper(many, 3, lines), found)
            self.wrong(2 + 3 * many - 1, read_ring_paper, many, 3, lines[:-1])
            self.wrong(2 + 3 * many, read_ring_paper, many, 3, lines + lines[-1:])

    def test_numbers_of_1_digit_of_9_and_of_10(self):
        for number in [0, 9, 10, 99999999, 100000000, 999999999]:
            found = Found("best", number, [0], [[number]], [number])
            self.assertEqual(read_paper(1, 1, paper_lines(found)), found)
            found = Found("best", number, [0], [[[number]]], [])
            self.assertEqual(read_ring_paper(1, 1, paper_lines(found)), found)
        for number in [10 ** 9, 10 ** 9 + 1, 9999999999, 10 ** 30]:
            self.wrong(0, read_paper, 1, 1, paper_lines(Found("best", number, [0], [[1]], [1])))
            self.wrong(2, read_paper, 1, 1, paper_lines(Found("best", 1, [0], [[number]], [1])))
            self.wrong(3, read_paper, 1, 1, paper_lines(Found("best", 1, [0], [[1]], [number])))
            self.wrong(2, read_ring_paper, 1, 1, paper_lines(Found("best", 1, [0], [[[number]]], [])))

    def test_what_is_read_is_not_judged(self):
        lines = ["best 0", "0 0", "5 5", "- -", "9 -"]
        self.assertEqual(read_paper(2, 2, lines), Found("best", 0, [0, 0], [[5, 5], [None, None]], [9, None]))
        self.assertEqual(read_ring_paper(1, 3, ["none", "1 2 3", "4 5 6", "7 8 9"]),
                         Found("none", None, [], [[[1, 2, 3]], [[4, 5, 6]], [[7, 8, 9]]], []))


class FirstLine(PaperCase):
    def test_wrong_ones(self):
        for read, _, lines, count in EVERY:
            rest = lines[1:] if lines[0] == "none" else lines[2:]
            for line in ["", " ", "None", "NONE", "none ", " none", "none\n", "none\t", "none 0", "none -", "best",
                         "best ", "best  7", "best 7 ", " best 7", "best 7 7", "best\t7", "best\n7", "best 7\n", "7",
                         "Best 7", "best best", "bestnone", "0", "-", "0 -"]:
                for told in [[line], [line, *lines[1:]], [line, *rest], [line, "0 " * (count - 1) + "0", *rest]]:
                    self.wrong(0, read, count, 2, told)
            for never in [*NEVER, "-"]:
                self.wrong(0, read, count, 2, [f"best {never}", *lines[1:]])
                self.wrong(0, read, count, 2, [f"best {never}"])

    def test_a_cost_that_is_missing_or_too_many(self):
        self.wrong(0, read_paper, 3, 2, ["best", *BEST_LINES[1:]])
        self.wrong(0, read_paper, 3, 2, ["best -", *BEST_LINES[1:]])
        self.wrong(0, read_paper, 3, 2, ["best 7 8", *BEST_LINES[1:]])
        self.wrong(0, read_paper, 2, 2, ["none 7", *NONE_LINES[1:]])
        self.wrong(0, read_paper, 3, 2, BEST_LINES[1:])

    def test_another_cost(self):
        for cost in [0, 1, 8, 999999999]:
            self.assertEqual(read_paper(3, 2, [f"best {cost}", *BEST_LINES[1:]]).cost, cost)


class LabelsLine(PaperCase):
    def test_missing_and_too_many(self):
        for line in ["", "1", "1 0", "1 0 1 0", "1 0 1 ", " 1 0 1", "1  0 1", "1 0", "0 -", "1 0 1 1 0 1"]:
            self.wrong(1, read_paper, 3, 2, ["best 7", line, *BEST_LINES[2:]])
        for line in ["", "1", "1 0 1", "1 0 "]:
            self.wrong(1, read_ring_paper, 2, 2, ["best 3", line, *RING_LINES[2:]])
        self.wrong(1, read_paper, 3, 2, ["best 7", *BEST_LINES[2:]])

    def test_labels_behind_none(self):
        self.wrong(1, read_paper, 3, 2, ["none", "0 1 0", *BEST_LINES[2:]])
        # A line of two labels has the form of a line of two numbers; so the last line is one too many.
        self.wrong(4, read_paper, 2, 2, ["none", "0 1", *NONE_LINES[1:]])

    def test_a_label_beyond_those_of_the_machine(self):
        for labels in [1, 2, 7, 8, 9, 12]:
            rows = [" ".join(["5"] * labels)] * 3
            self.assertEqual(read_paper(2, labels, ["best 1", f"0 {labels - 1}", *rows]).labels, [0, labels - 1])
            for label in [labels, labels + 1, 100, 999999999]:
                self.wrong(1, read_paper, 2, labels, ["best 1", f"0 {label}", *rows])
                self.wrong(1, read_paper, 2, labels, ["best 1", f"{label} 0", *rows])
                self.wrong(1, read_ring_paper, 1, labels, ["best 1", f"{label}", *rows[:1] * labels])

    def test_words_that_are_no_labels(self):
        for never in [*NEVER, "-"]:
            for place in range(3):
                words = ["1", "0", "1"]
                words[place] = never
                self.wrong(1, read_paper, 3, 2, ["best 7", " ".join(words), *BEST_LINES[2:]])


class NumberLines(PaperCase):
    def test_wrong_words(self):
        for read, _, lines, count in EVERY:
            begin = 1 if lines[0] == "none" else 2
            for at in range(begin, len(lines)):
                for never in NEVER:
                    for line in [f"{never} 0", f"0 {never}"]:
                        self.wrong(at, read, count, 2, lines[:at] + [line] + lines[at + 1:])

    def test_missing_and_too_many(self):
        for read, _, lines, count in EVERY:
            begin = 1 if lines[0] == "none" else 2
            for at in range(begin, len(lines)):
                for line in ["", "0", "-", "0 0 0", "- - -", "0 0 ", " 0 0", "0  0", "0 0\n", "\t0 0", "0\t0", "0\n0"]:
                    self.wrong(at, read, count, 2, lines[:at] + [line] + lines[at + 1:])

    def test_other_numbers(self):
        for read, _, lines, count in EVERY:
            begin = 1 if lines[0] == "none" else 2
            for at in range(begin, len(lines)):
                for line in ["0 0", "- -", "- 999999999", "10 -"]:
                    told = lines[:at] + [line] + lines[at + 1:]
                    self.assertEqual(paper_lines(read(count, 2, told)), told)


class WholePapers(PaperCase):
    def test_no_lines_at_all(self):
        for read, _, _, count in EVERY:
            for nothing in [[], ()]:
                self.wrong(0, read, count, 2, nothing)

    def test_papers_that_stop_after_each_line(self):
        for read, _, lines, count in EVERY:
            for many in range(len(lines)):
                self.wrong(many, read, count, 2, lines[:many])

    def test_a_line_behind_the_end(self):
        for read, _, lines, count in EVERY:
            for line in ["", "0 0", "- -", "none", "x", lines[-1]]:
                self.wrong(len(lines), read, count, 2, lines + [line])
                self.wrong(len(lines), read, count, 2, lines + [line, line])

    def test_lines_that_are_there_are_asked_first(self):
        for read, _, lines, count in EVERY:
            for many in range(2, len(lines)):
                for at in range(many):
                    told = lines[:many]
                    told[at] = "x"
                    self.wrong(at, read, count, 2, told)

    def test_each_line_left_out_doubled_exchanged_or_empty(self):
        seen = []
        for read, _, lines, count in EVERY:
            for at in range(len(lines)):
                changed = [lines[:at] + lines[at + 1:], lines[:at + 1] + lines[at:],
                           lines[:at] + lines[at + 1:at + 2] + [lines[at]] + lines[at + 2:],
                           lines[:at] + [""] + lines[at + 1:], lines[:at] + [lines[at] + " "] + lines[at + 1:],
                           lines[:at] + [lines[at] + "\n"] + lines[at + 1:], lines[:at] + ["none"] + lines[at + 1:]]
                for told in changed:
                    seen.append(self.as_defined(read, count, 2, told))
        self.assertTrue({None, 0, 1, 2, 3, 4, 5, 6} <= set(seen))

    def test_other_numbers_of_people_and_labels(self):
        for read, _, lines, _ in EVERY:
            for count, labels in itertools.product(range(1, 5), range(1, 5)):
                self.as_defined(read, count, labels, lines)
        # The paper of a tree is none of a ring, and the other way round.
        for _, lines, count in TREES:
            self.assertIsNotNone(self.as_defined(read_ring_paper, count, 2, lines))
        for _, lines, count in RINGS:
            self.assertIsNotNone(self.as_defined(read_paper, count, 2, lines))
        # For one person and one label the paper of a ring lacks a line of the paper of a tree.
        self.wrong(2, read_paper, 1, 1, ["none", "0"])
        self.wrong(2, read_ring_paper, 1, 1, ["none", "0", "0"])

    def test_all_papers_of_few_lines(self):
        seen = []
        told = ["none", "best 0", "0", "-", "", "1", "0 0"]
        for many in range(1, 5):
            for lines in itertools.product(told, repeat=many):
                for read, count, labels in [(read_paper, 1, 1), (read_paper, 2, 1), (read_ring_paper, 1, 1),
                                            (read_ring_paper, 1, 2)]:
                    seen.append(self.as_defined(read, count, labels, list(lines)))
        self.assertEqual(set(seen), {None, 0, 1, 2, 3, 4})


class Arguments(PaperCase):
    def test_lists_and_tuples_are_taken_alike(self):
        for read, found, lines, count in EVERY:
            self.assertEqual(read(count, 2, tuple(lines)), found)
            self.wrong(len(lines) - 1, read, count, 2, tuple(lines[:-1]))

    def test_arguments_have_their_names(self):
        self.assertEqual(paper_lines(found=BEST), BEST_LINES)
        self.assertEqual(read_paper(count=3, labels=2, lines=BEST_LINES), BEST)
        self.assertEqual(read_ring_paper(count=2, labels=2, lines=RING_LINES), RING)

    def test_they_stay_as_they_were(self):
        before = copy.deepcopy(EVERY)
        for read, found, lines, count in EVERY:
            paper_lines(found)
            read(count, 2, lines)
            self.wrong(len(lines) - 1, read, count, 2, lines[:-1])
        self.assertEqual(EVERY, before)

    def test_an_answer_may_be_changed(self):
        for read, found, lines, count in EVERY:
            told = read(count, 2, lines)
            told.labels.append(1)
            told.numbers[0].append(5)
            told.numbers.pop()
            told.ends.append(0)
            self.assertEqual(read(count, 2, lines), found)

    def test_asked_in_turn(self):
        for _ in range(2):
            for read, found, lines, count in EVERY + EVERY[::-1]:
                self.assertEqual(paper_lines(found), lines)
                self.assertEqual(read(count, 2, lines), found)


if __name__ == "__main__":
    unittest.main()
