"""Trees and contexts that are texts: point [21]."""

import itertools
import unittest

from someobjects.errors import BadText
from someobjects.trees import people, read_tree, row_tree, tree_text

HOLE = (None, ())
LEAF = (0, ())
WHOLE = "4 2 3 1 hole 2 2 1 0 0 0"
# None of these fits at any place of a text.
NEVER = ["", "x", "10", "00", "01", "-1", "+1", "-", "1\n", "\n", "\t1", "1\t", "1.", "()",
         "Hole", "HOLE", "hole\n", "\thole", "holes", "None", "move"]


def place_behind(words, at):
    """The place behind the tree that begins at a word, -1 if none does, None if it is not whole."""
    if at == len(words):
        return None
    if words[at] == "hole":
        return at + 1
    if words[at] not in list("0123456789"):
        return -1
    if at + 1 == len(words):
        return None
    if words[at + 1] not in ["0", "1", "2"]:
        return -1
    behind = at + 2
    for _ in range(int(words[at + 1])):
        behind = place_behind(words, behind)
        if behind is None or behind == -1:
            return behind
    return behind


def place_of_fault(words):
    """The index that BadText tells for few words, or None, by the definition in point [21]."""
    for many in range(1, len(words) + 1):
        behind = place_behind(words[:many], 0)
        if behind == -1 or (behind is not None and behind < many) or words[:many].count("hole") > 1:
            return many - 1
    return len(words) if place_behind(words, 0) is None else None


class TextCase(unittest.TestCase):
    def wrong(self, at, text):
        with self.assertRaises(BadText) as caught:
            read_tree(text)
        self.assertEqual(caught.exception.at, at, repr(text))

    def again(self, tree):
        self.assertEqual(read_tree(tree_text(tree)), tree)


class Writing(unittest.TestCase):
    def test_trees(self):
        self.assertEqual(tree_text((7, ())), "7 0")
        self.assertEqual(tree_text((1, (LEAF,))), "1 1 0 0")
        self.assertEqual(tree_text((1, ((2, ()), (3, ())))), "1 2 2 0 3 0")
        self.assertEqual(tree_text((1, ((2, ((4, ()),)), (3, ())))), "1 2 2 1 4 0 3 0")

    def test_contexts(self):
        self.assertEqual(tree_text(HOLE), "hole")
        self.assertEqual(tree_text((1, (HOLE,))), "1 1 hole")
        self.assertEqual(tree_text((1, (LEAF, HOLE))), "1 2 0 0 hole")
        self.assertEqual(tree_text((1, (HOLE, LEAF))), "1 2 hole 0 0")

    def test_long_rows(self):
        for many in [200, 205]:
            self.assertEqual(tree_text(row_tree([3] * many)), " ".join(["3 1"] * (many - 1) + ["3 0"]))


class Reading(TextCase):
    def test_trees(self):
        self.assertEqual(read_tree("0 0"), LEAF)
        self.assertEqual(read_tree("9 0"), (9, ()))
        self.assertEqual(read_tree("1 1 2 0"), (1, ((2, ()),)))
        self.assertEqual(read_tree("1 2 2 0 3 0"), (1, ((2, ()), (3, ()))))
        self.assertEqual(read_tree("1 2 2 1 4 0 3 0"), (1, ((2, ((4, ()),)), (3, ()))))
        self.assertEqual(read_tree("1 2 2 0 3 2 4 0 5 0"), (1, ((2, ()), (3, ((4, ()), (5, ()))))))

    def test_contexts(self):
        self.assertEqual(read_tree("hole"), HOLE)
        self.assertEqual(read_tree("1 1 hole"), (1, (HOLE,)))
        self.assertEqual(read_tree("1 2 hole 0 0"), (1, (HOLE, LEAF)))
        self.assertEqual(read_tree("1 2 0 0 hole"), (1, (LEAF, HOLE)))
        self.assertEqual(read_tree(WHOLE), (4, ((3, (HOLE,)), (2, ((1, ()), LEAF)))))

    def test_every_letter_of_one_digit(self):
        for letter in range(10):
            self.assertEqual(read_tree(f"{letter} 0"), (letter, ()))

    def test_what_is_written_is_read_again(self):
        tree = (1, ((2, ((9, ()),)), (3, (LEAF, (4, ((5, ()), (6, (LEAF,))))))))
        for told in [LEAF, HOLE, tree, (1, (tree, HOLE)), (1, (HOLE, tree)), (0, (tree, (2, ((3, (HOLE,)), tree))))]:
            self.again(told)
        for many in [1, 2, 199, 200]:
            self.again(row_tree([at % 10 for at in range(many)]))

    def test_children_are_tuples(self):
        letter, children = read_tree("1 2 0 0 hole")
        self.assertEqual(letter, 1)
        self.assertIsInstance(children, tuple)
        self.assertIsInstance(children[0], tuple)


class Unfinished(TextCase):
    def test_the_empty_text(self):
        self.wrong(0, "")

    def test_texts_that_stop_after_each_word(self):
        words = WHOLE.split(" ")
        for many in range(len(words)):
            self.wrong(many, " ".join(words[:many]))


class WrongWords(TextCase):
    def test_a_wrong_word_at_each_place(self):
        words = WHOLE.split(" ")
        for at in range(len(words)):
            for never in NEVER:
                self.wrong(at, " ".join(words[:at] + [never] + words[at + 1:]))
                self.wrong(at, " ".join(words[:at] + [never] + words[at:]))
                self.wrong(at, " ".join(words[:at] + [never]))

    def test_spaces_newlines_and_tabs(self):
        self.wrong(0, " ")
        self.wrong(0, " 0 0")
        self.wrong(2, "0 0 ")
        self.wrong(1, "0  0")
        self.wrong(1, "0 ")
        self.wrong(1, "hole ")
        self.wrong(0, " hole")
        self.wrong(1, "0 0\n")
        self.wrong(0, "0\t0")
        self.wrong(0, "hole\n")

    def test_a_second_hole(self):
        self.wrong(3, "0 2 hole hole")
        self.wrong(5, "0 2 hole 0 1 hole")
        self.wrong(1, "hole hole")

    def test_a_letter_of_two_digits(self):
        self.wrong(0, "10 0")
        self.wrong(2, "1 1 10 0")

    def test_numbers_of_children(self):
        for many in ["3", "4", "9", "10", "-1"]:
            self.wrong(1, f"0 {many}")
            self.wrong(1, f"0 {many} 0 0 0 0 0 0")
        self.wrong(1, "0 hole")

    def test_words_behind_a_whole_tree(self):
        for word in ["0", "hole", "x", "", "0 0"]:
            self.wrong(2, f"0 0 {word}")
            self.wrong(1, f"hole {word}")
            self.wrong(6, f"0 2 0 0 0 0 {word}")

    def test_as_the_document_defines_it(self):
        words = ["0", "1", "2", "3", "hole", "10", ""]
        for many in range(1, 7):
            for told in itertools.product(words, repeat=many):
                # One empty word alone is the empty text, which has no words.
                if told == ("",):
                    continue
                at = place_of_fault(list(told))
                if at is None:
                    self.assertEqual(tree_text(read_tree(" ".join(told))), " ".join(told))
                else:
                    self.wrong(at, " ".join(told))


class TwoHundredNodes(TextCase):
    def test_200_nodes(self):
        text = "0 1 " * 199 + "0 0"
        self.assertEqual(people(read_tree(text)), 200)
        self.assertEqual(tree_text(read_tree(text)), text)

    def test_200_nodes_of_two_children(self):
        text = "1 1 " + "0 2 3 0 " * 99 + "2 0"
        self.assertEqual(people(read_tree(text)), 200)
        self.assertEqual(tree_text(read_tree(text)), text)

    def test_a_hole_is_a_node(self):
        text = "0 1 " * 199 + "hole"
        self.assertEqual(tree_text(read_tree(text)), text)
        self.wrong(399, "0 1 " * 200 + "hole")

    def test_201_nodes(self):
        # The 200th node may have no child: its number of children is the word of the index 399.
        self.wrong(399, "0 1 " * 200 + "0 0")
        self.wrong(399, "0 1 " * 199 + "0 2 0 0 0 0")
        self.wrong(399, "0 1 " * 199 + "0 1")

    def test_children_that_are_still_to_come_count(self):
        # 99 nodes with a leaf each and the one that follows: 199 nodes, so two children more are too many.
        start = "0 2 0 0 " * 99
        self.assertEqual(people(read_tree(start + "0 1 0 0")), 200)
        self.assertEqual(people(read_tree(start + "0 0")), 199)
        self.wrong(397, start + "0 2 0 0 0 0")
        # As many nodes, but the leaves stand behind: these, too, are there as soon as they are told.
        ahead = "0 2 " * 99
        behind = " 0 0" * 99
        self.assertEqual(people(read_tree(ahead + "0 0" + behind)), 199)
        self.assertEqual(people(read_tree(ahead + "0 1 0 0" + behind)), 200)
        self.wrong(199, ahead + "0 2 0 0 0 0" + behind)
        self.wrong(201, ahead + "0 1 0 1 0 0" + behind)
        self.wrong(205, ahead + "0 1 0 0 0 0 0 1 0 0" + " 0 0" * 97)

    def test_words_behind_200_nodes(self):
        self.wrong(400, "0 1 " * 199 + "0 0 0")

    def test_200_nodes_that_stop(self):
        self.wrong(398, "0 1 " * 198 + "0 1")
        self.wrong(399, "0 1 " * 199 + "0")

    def test_a_far_too_long_text(self):
        self.wrong(399, "0 1 " * 5000 + "0 0")


if __name__ == "__main__":
    unittest.main()
