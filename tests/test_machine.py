"""Making machines: point [3], equality, and what point [1] says of lists."""

import copy
import unittest

from someobjects.errors import BadMachine
from someobjects.machine import Machine


class MachineCase(unittest.TestCase):
    def wrong(self, what, *parts):
        with self.assertRaises(BadMachine) as caught:
            Machine(*parts)
        self.assertEqual(caught.exception.what, what, parts)


class Numbers(MachineCase):
    def test_letters_from_1_to_4(self):
        for letters in [1, 2, 3, 4]:
            self.assertEqual(Machine(letters, 1, [], []).letters, letters)
        for letters in [-4, -1, 0, 5, 6, 100]:
            self.wrong("letters", letters, 1, [], [])

    def test_labels_from_1_to_8(self):
        for labels in range(1, 9):
            self.assertEqual(Machine(1, labels, [], []).labels, labels)
        for labels in [-8, -1, 0, 9, 10, 100]:
            self.wrong("labels", 1, labels, [], [])


class Moves(MachineCase):
    def test_letters_of_moves(self):
        for letters in [1, 2, 3, 4]:
            for letter in range(letters):
                self.assertEqual(Machine(letters, 1, [(letter, (), 0)], []).moves, ((letter, (), 0),))
            for letter in [-letters, -1, letters, letters + 1]:
                self.wrong("moves", letters, 1, [(letter, (), 0)], [])

    def test_labels_of_moves(self):
        for labels in range(1, 9):
            for label in [0, labels - 1]:
                for move in [(0, (), label), (0, (label,), 0), (0, (label, 0), 0), (0, (0, label), 0)]:
                    self.assertEqual(Machine(1, labels, [move], []).moves, (move,))
            for label in [-labels, -1, labels, labels + 1]:
                for move in [(0, (), label), (0, (label,), 0), (0, (label, 0), 0), (0, (0, label), 0)]:
                    self.wrong("moves", 1, labels, [move], [])

    def test_children_of_moves(self):
        for many in [0, 1, 2]:
            move = (0, (0,) * many, 0)
            self.assertEqual(Machine(1, 1, [move], []).moves, (move,))
        for many in [3, 4, 10]:
            self.wrong("moves", 1, 1, [(0, (0,) * many, 0)], [])
            self.wrong("moves", 1, 1, [(0, [0] * many, 0)], [])

    def test_one_wrong_move_among_others(self):
        right = [(0, (), 0), (1, (0,), 1), (1, (0, 1), 2)]
        for wrong in [(2, (), 0), (0, (), 3), (0, (3,), 0), (0, (0, 3), 0), (0, (0, 0, 0), 0)]:
            for place in range(len(right) + 1):
                self.wrong("moves", 2, 3, right[:place] + [wrong] + right[place:], [])


class Ends(MachineCase):
    def test_ends_are_labels(self):
        for labels in range(1, 9):
            self.assertEqual(Machine(1, labels, [], list(range(labels))).ends, tuple(range(labels)))
            for label in [-labels, -1, labels, labels + 1]:
                self.wrong("ends", 1, labels, [], [label])
                self.wrong("ends", 1, labels, [], [0, label])
                self.wrong("ends", 1, labels, [], [label, 0])


class SeveralWrong(MachineCase):
    def test_the_first_one_is_told(self):
        moves = [(4, (), 0)]
        ends = [8]
        self.wrong("letters", 0, 0, moves, ends)
        self.wrong("letters", 5, 9, moves, ends)
        self.wrong("letters", 5, 1, [], ends)
        self.wrong("letters", -1, 1, moves, [])
        self.wrong("letters", 0, 9, [], [])
        self.wrong("labels", 1, 0, moves, ends)
        self.wrong("labels", 4, 9, [], ends)
        self.wrong("labels", 4, 9, moves, [])
        self.wrong("moves", 4, 8, moves, ends)
        self.wrong("moves", 1, 1, [(0, (0, 0, 0), 0)], [-1])
        self.wrong("ends", 4, 8, [(3, (), 7)], ends)


class Fields(MachineCase):
    def test_ordinary_fields(self):
        made = Machine(2, 3, [(1, (0, 2), 1), (0, (), 2)], [2, 0])
        self.assertEqual(made.letters, 2)
        self.assertEqual(made.labels, 3)
        self.assertEqual(made.moves, ((0, (), 2), (1, (0, 2), 1)))
        self.assertEqual(made.ends, (0, 2))

    def test_no_moves_and_no_ends(self):
        for nothing in [[], ()]:
            made = Machine(4, 8, nothing, nothing)
            self.assertEqual((made.letters, made.labels, made.moves, made.ends), (4, 8, (), ()))

    def test_each_once_and_in_ascending_order(self):
        ascending = ((0, (), 0), (0, (), 1), (0, (0,), 0), (0, (0, 0), 1), (0, (0, 1), 0), (0, (1,), 0), (1, (), 0))
        moves = list(ascending)
        for turned in [moves, moves[::-1], moves[3:] + moves[:3], moves + moves[::-1], moves * 3]:
            self.assertEqual(Machine(2, 2, turned, []).moves, ascending)
        for ends in [[0, 1, 4], [4, 1, 0], [1, 4, 0, 1, 4], [4] * 5 + [0, 0, 1]]:
            self.assertEqual(Machine(1, 5, [], ends).ends, (0, 1, 4))

    def test_the_same_move_with_a_list_and_a_tuple_is_kept_once(self):
        self.assertEqual(Machine(1, 1, [(0, [0], 0), (0, (0,), 0)], []).moves, ((0, (0,), 0),))

    def test_fields_are_tuples(self):
        made = Machine(1, 2, [(0, [], 0), (0, [1, 0], 0)], [1])
        self.assertIsInstance(made.moves, tuple)
        self.assertIsInstance(made.ends, tuple)
        for move in made.moves:
            self.assertIsInstance(move, tuple)
            self.assertIsInstance(move[1], tuple)


class Equality(MachineCase):
    def test_equal_exactly_if_the_fields_are(self):
        parts = [
            (1, 2, [(0, (), 0)], [0]),
            (2, 2, [(0, (), 0)], [0]),
            (1, 3, [(0, (), 0)], [0]),
            (1, 2, [(0, (), 1)], [0]),
            (1, 2, [(0, (0,), 0)], [0]),
            (1, 2, [(0, (), 0), (0, (), 1)], [0]),
            (1, 2, [], [0]),
            (1, 2, [(0, (), 0)], [1]),
            (1, 2, [(0, (), 0)], [0, 1]),
            (1, 2, [(0, (), 0)], []),
        ]
        for at, one in enumerate(parts):
            for where, other in enumerate(parts):
                self.assertEqual(Machine(*one) == Machine(*other), at == where, (one, other))
                self.assertEqual(Machine(*one) != Machine(*other), at != where, (one, other))

    def test_order_and_repetition_make_no_difference(self):
        moves = [(0, (), 0), (0, (0,), 1)]
        self.assertEqual(Machine(1, 2, moves, [0, 1]), Machine(1, 2, moves[::-1] + moves, [1, 0, 1]))

    def test_nothing_else_is_equal_to_a_machine(self):
        made = Machine(1, 1, [], [])
        for thing in [None, 1, "letters 1 labels 1", (1, 1, (), ()), [1, 1, (), ()]]:
            self.assertFalse(made == thing)
            self.assertTrue(made != thing)


class ListsAndTuples(MachineCase):
    def test_lists_and_tuples_are_taken_alike(self):
        with_lists = Machine(2, 2, [(0, [], 0), (1, [0], 1), (1, [0, 1], 1)], [0, 1])
        with_tuples = Machine(2, 2, ((0, (), 0), (1, (0,), 1), (1, (0, 1), 1)), (0, 1))
        self.assertEqual(with_lists, with_tuples)
        self.assertEqual(with_lists.moves, with_tuples.moves)
        self.wrong("moves", 2, 2, ((0, (2,), 0),), ())
        self.wrong("ends", 2, 2, (), (2,))

    def test_arguments_stay_as_they_were(self):
        moves = [(1, [1, 0], 0), (0, [], 1), (1, [1, 0], 0), (0, [0], 1)]
        ends = [1, 0, 1]
        before = copy.deepcopy((moves, ends))
        Machine(2, 2, moves, ends)
        self.assertEqual((moves, ends), before)

    def test_arguments_stay_as_they_were_when_they_are_refused(self):
        moves = [(1, [1, 0], 0), (0, [5], 1)]
        ends = [1, 0, 7]
        before = copy.deepcopy((moves, ends))
        self.wrong("moves", 2, 2, moves, ends)
        self.wrong("ends", 2, 2, moves[:1], ends)
        self.assertEqual((moves, ends), before)

    def test_a_machine_does_not_change_with_the_lists(self):
        children = [1, 0]
        moves = [(1, children, 0)]
        ends = [1]
        made = Machine(2, 2, moves, ends)
        children.append(1)
        children[0] = 0
        moves.append((0, [], 0))
        ends[0] = 0
        ends.append(1)
        self.assertEqual(made, Machine(2, 2, [(1, (1, 0), 0)], [1]))


if __name__ == "__main__":
    unittest.main()
