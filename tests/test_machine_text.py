"""Machines that are texts: point [20]."""

import re
import unittest

from someobjects.errors import BadText
from someobjects.machine import Machine, machine_text, read_machine

WHOLE = "letters 2 labels 3 move 1 0 to 2 move 0 1 2 to 0 move 1 2 0 1 to 1 end 0 end 2"
# None of these fits at any place of a text.
NEVER = ["", "x", "9", "10", "00", "01", "-1", "+1", "-", "1\n", "\n", "\t1", "1\t", "1.", "(0)",
         "Letters", "LABELS", "Move", "To", "END", "letter", "moves", "to\n", "end\t", "hole", "None"]
FORM = re.compile(r"letters ([1-4]) labels ([1-8])((?: move \d (?:0|1 \d|2 \d \d) to \d)*)((?: end \d)*)\Z", re.ASCII)
# One of these makes any beginning of a text of a machine whole, and nothing makes anything else whole.
BEHIND = ["letters 1 labels 1", "1 labels 1", "labels 1", "1", "", "0 0 to 0", "0 to 0", "to 0", "0"]


def writes_a_machine(words):
    """Whether words are a text of a machine, by the words of point [20] alone."""
    form = FORM.match(" ".join(words))
    if form is None:
        return False
    letters, labels = int(form[1]), int(form[2])
    for move in form[3].split(" move ")[1:]:
        letter, _, *children, _, label = move.split(" ")
        if int(letter) >= letters or any(int(child) >= labels for child in [*children, label]):
            return False
    return all(int(label) < labels for label in form[4].split(" end ")[1:])


def begins_a_machine(words):
    behinds = [behind.split(" ") if behind else [] for behind in BEHIND]
    return any(writes_a_machine(words + behind) for behind in behinds)


def place_of_fault(words):
    """The index that BadText tells, or None, by the definition in point [20]."""
    if writes_a_machine(words):
        return None
    for at in range(len(words)):
        if not begins_a_machine(words[:at + 1]):
            return at
    return len(words)


class TextCase(unittest.TestCase):
    def wrong(self, at, text):
        with self.assertRaises(BadText) as caught:
            read_machine(text)
        self.assertEqual(caught.exception.at, at, repr(text))

    def as_defined(self, words):
        at = place_of_fault(words)
        if at is None:
            self.assertEqual(place_of_fault(machine_text(read_machine(" ".join(words))).split(" ")), None)
        else:
            self.wrong(at, " ".join(words))


class Writing(unittest.TestCase):
    def test_no_moves_and_no_ends(self):
        self.assertEqual(machine_text(Machine(1, 1, [], [])), "letters 1 labels 1")
        self.assertEqual(machine_text(Machine(4, 8, [], [])), "letters 4 labels 8")

    def test_moves_of_0_1_and_2_children(self):
        made = Machine(2, 3, [(0, (1, 2), 0), (1, (), 2), (0, (2,), 1)], [])
        self.assertEqual(machine_text(made), "letters 2 labels 3 move 0 2 1 2 to 0 move 0 1 2 to 1 move 1 0 to 2")

    def test_ends(self):
        self.assertEqual(machine_text(Machine(1, 8, [], [7, 0, 3, 0])), "letters 1 labels 8 end 0 end 3 end 7")

    def test_moves_stand_ahead_of_ends_each_once(self):
        made = Machine(1, 2, [(0, (1,), 0), (0, (), 1), (0, (1,), 0)], [1, 1])
        self.assertEqual(machine_text(made), "letters 1 labels 2 move 0 0 to 1 move 0 1 1 to 0 end 1")

    def test_the_machine_stays_as_it_was(self):
        made = Machine(1, 2, [(0, (1,), 0)], [1])
        machine_text(made)
        self.assertEqual(made, Machine(1, 2, [(0, (1,), 0)], [1]))


class Reading(TextCase):
    def test_ordinary_text(self):
        moves = [(1, (), 2), (0, (2,), 0), (1, (0, 1), 1)]
        self.assertEqual(read_machine(WHOLE), Machine(2, 3, moves, [0, 2]))

    def test_no_moves_and_no_ends(self):
        self.assertEqual(read_machine("letters 3 labels 2"), Machine(3, 2, [], []))
        self.assertEqual(read_machine("letters 3 labels 2 end 1"), Machine(3, 2, [], [1]))
        self.assertEqual(read_machine("letters 3 labels 2 move 2 0 to 1"), Machine(3, 2, [(2, (), 1)], []))

    def test_any_order_and_more_than_once(self):
        one, other, third = "move 1 0 to 1", "move 0 2 1 0 to 1", "move 0 1 1 to 0"
        made = Machine(2, 2, [(0, (1,), 0), (0, (1, 0), 1), (1, (), 1)], [0, 1])
        for moves in [[one, other, third], [third, other, one], [other, one, other, third, one]]:
            for ends in [["end 0", "end 1"], ["end 1", "end 0"], ["end 1", "end 0", "end 1", "end 1"]]:
                self.assertEqual(read_machine(" ".join(["letters 2 labels 2", *moves, *ends])), made)

    def test_what_is_written_is_read_again(self):
        every = [(letter, children, label) for letter in range(4) for label in range(8)
                 for children in [(), (7,), (0,), (3, 4), (7, 0), (0, 7)]]
        machines = [Machine(1, 1, [], []), Machine(4, 8, every, list(range(8))), Machine(4, 8, every, []),
                    Machine(2, 5, [(1, (4, 4), 0)], [4, 2]), Machine(1, 2, [], [1])]
        for made in machines:
            self.assertEqual(read_machine(machine_text(made)), made)


class Unfinished(TextCase):
    def test_the_empty_text(self):
        self.wrong(0, "")

    def test_texts_that_stop_after_each_word(self):
        words = WHOLE.split(" ")
        # Behind the head, behind each move and behind each end the text is whole.
        whole = [4, 9, 15, 22, 24, 26]
        for many in range(len(words) + 1):
            text = " ".join(words[:many])
            if many in whole:
                self.assertIsInstance(read_machine(text), Machine)
            else:
                self.wrong(many, text)


class WrongWords(TextCase):
    def test_a_wrong_word_at_each_place(self):
        words = WHOLE.split(" ")
        for at in range(len(words)):
            for never in NEVER:
                self.wrong(at, " ".join(words[:at] + [never] + words[at + 1:]))
                self.wrong(at, " ".join(words[:at] + [never] + words[at:]))
                self.wrong(at, " ".join(words[:at] + [never]))

    def test_numbers_out_of_range(self):
        self.wrong(1, "letters 0 labels 1")
        self.wrong(1, "letters 5 labels 1")
        self.wrong(3, "letters 1 labels 0")
        self.wrong(3, "letters 1 labels 9")
        self.wrong(5, "letters 2 labels 3 move 2 0 to 0")
        self.wrong(6, "letters 2 labels 3 move 1 3 0 0 0 to 0")
        self.wrong(7, "letters 2 labels 3 move 1 1 3 to 0")
        self.wrong(7, "letters 2 labels 3 move 1 2 3 0 to 0")
        self.wrong(8, "letters 2 labels 3 move 1 2 0 3 to 0")
        self.wrong(8, "letters 2 labels 3 move 1 0 to 3")
        self.wrong(5, "letters 2 labels 3 end 3")

    def test_numbers_at_the_bounds(self):
        self.assertEqual(read_machine("letters 4 labels 8 move 3 2 7 7 to 7 end 7"),
                         Machine(4, 8, [(3, (7, 7), 7)], [7]))
        for bound, low, high in [("letters {} labels 1", 1, 4), ("letters 1 labels {}", 1, 8),
                                 ("letters 3 labels 8 move {} 0 to 0", 0, 2), ("letters 3 labels 8 end {}", 0, 7),
                                 ("letters 3 labels 8 move 0 1 {} to 0", 0, 7)]:
            at = bound.split(" ").index("{}")
            for number in range(12):
                text = bound.format(number)
                if low <= number <= high:
                    self.assertIsInstance(read_machine(text), Machine)
                else:
                    self.wrong(at, text)

    def test_spaces(self):
        self.wrong(0, " ")
        self.wrong(0, "  ")
        self.wrong(0, " " + WHOLE)
        self.wrong(26, WHOLE + " ")
        self.wrong(26, WHOLE + "  ")
        self.wrong(4, "letters 1 labels 1 ")
        self.wrong(1, "letters  1 labels 1")
        self.wrong(1, "letters ")

    def test_newlines_and_tabs_belong_to_words(self):
        self.wrong(0, "\n")
        self.wrong(0, "letters\n1 labels 1")
        self.wrong(0, "letters\t1\tlabels\t1")
        self.wrong(3, "letters 1 labels 1\n")
        self.wrong(3, "letters 1 labels 1\nend 0")
        self.wrong(25, WHOLE + "\n")

    def test_a_word_behind_the_end(self):
        for word in ["x", "0", "letters", "to", "labels", ""]:
            self.wrong(26, f"{WHOLE} {word}")

    def test_a_move_behind_an_end(self):
        self.wrong(6, "letters 1 labels 1 end 0 move 0 0 to 0")
        self.wrong(11, "letters 1 labels 1 move 0 0 to 0 end 0 move 0 0 to 0 end 0")

    def test_children_that_do_not_fit_their_number(self):
        self.wrong(7, "letters 1 labels 1 move 0 0 0 to 0")
        self.wrong(7, "letters 1 labels 1 move 0 1 to 0")
        self.wrong(8, "letters 1 labels 1 move 0 1 0 0 to 0")
        self.wrong(7, "letters 1 labels 1 move 0 2 to 0")
        self.wrong(8, "letters 1 labels 1 move 0 2 0 to 0")
        self.wrong(9, "letters 1 labels 1 move 0 2 0 0 0 to 0")

    def test_as_the_document_defines_it(self):
        others = ["letters", "labels", "move", "to", "end", "0", "1", "2", "3", "4", "5", "8", "9", "", "move 0 0 to 0"]
        for text in [WHOLE, "letters 1 labels 1", "letters 4 labels 8 move 3 2 7 6 to 5 end 4"]:
            words = text.split(" ")
            for at in range(len(words) + 1):
                self.as_defined(words[:at] + words[at + 1:])
                for other in others:
                    self.as_defined(words[:at] + other.split(" ") + words[at:])
                    self.as_defined(words[:at] + other.split(" ") + words[at + 1:])


if __name__ == "__main__":
    unittest.main()
