"""Who objects and what is wished: points [4], [5] and the last sentence of [10], and [1] and [2] for these."""

import copy
import itertools
import unittest

from reference import (Dice, against, any_machine, any_tree, as_tuples, comb, lists_of, numbered, ring_against)
from someobjects.machine import Machine
from someobjects.seen import objectors, ring_objectors, ring_wishes, ways, wishes
from someobjects.trees import people, people_of, row_tree

LEAF = (0, ())
# One label for each letter 0, and the letter 1 goes from one label to the other.
TURNS = Machine(2, 2, [(0, [], 0), (1, [], 1), (0, [0], 0), (0, [1], 1), (1, [0], 1), (1, [1], 0)], [0])
# Each person is given the label that tells how many children it has, and two children stand in ascending order.
KINDS = Machine(1, 3, [(0, [], 0), (0, [0], 1), (0, [1], 1), (0, [2], 1), (0, [0, 1], 2), (0, [0, 2], 2)], [1, 2])
FULL = Machine(1, 8, [(0, children, label) for many in range(3)
                      for children in itertools.product(range(8), repeat=many) for label in range(8)], list(range(8)))


class Numbering(unittest.TestCase):
    def test_a_row(self):
        self.assertEqual(people_of(row_tree([3, 1, 2])), [(3, ()), (1, (0,)), (2, (1,))])

    def test_two_children_of_which_the_first_one_has_children(self):
        tree = (0, ((1, ((2, ()), (3, ()))), (4, ())))
        self.assertEqual(people_of(tree), [(2, ()), (3, ()), (1, (0, 1)), (4, ()), (0, (2, 3))])

    def test_two_children_of_which_the_second_one_has_children(self):
        tree = (0, ((1, ()), (2, ((3, ()), (4, ((5, ()),))))))
        self.assertEqual(people_of(tree), [(1, ()), (3, ()), (5, ()), (4, (2,)), (2, (1, 3)), (0, (0, 4))])

    def test_it_is_seen_in_labels_and_objectors(self):
        # Each letter has its own label; so the labels by which nobody objects are the letters in order.
        moves = [(letter, children, letter) for letter in range(4) for many in range(3)
                 for children in itertools.product(range(4), repeat=many)]
        machine = Machine(4, 4, moves, [0, 1, 2, 3])
        tree = (0, ((1, ((2, ()), (3, ()))), (2, ((0, ()),))))
        letters = [2, 3, 1, 0, 2, 0]
        self.assertEqual(objectors(machine, tree, letters), [])
        for at in range(6):
            changed = letters[:at] + [(letters[at] + 1) % 4] + letters[at + 1:]
            self.assertEqual(objectors(machine, tree, changed), [at])

    def test_against_the_document(self):
        dice = Dice(2)
        for many in list(range(1, 30)) * 3:
            tree = any_tree(dice, 4, many)
            self.assertEqual(people_of(tree), numbered(tree))


class Objectors(unittest.TestCase):
    def test_no_child(self):
        machine = Machine(2, 2, [(0, [], 1), (1, [], 0)], [0, 1])
        self.assertEqual(objectors(machine, (0, ()), [1]), [])
        self.assertEqual(objectors(machine, (0, ()), [0]), [0])
        self.assertEqual(objectors(machine, (1, ()), [0]), [])
        self.assertEqual(objectors(machine, (1, ()), [1]), [0])

    def test_one_child(self):
        machine = Machine(2, 2, [(0, [], 0), (0, [], 1), (1, [0], 1)], [0, 1])
        self.assertEqual(objectors(machine, (1, (LEAF,)), [0, 1]), [])
        self.assertEqual(objectors(machine, (1, (LEAF,)), [0, 0]), [1])
        self.assertEqual(objectors(machine, (1, (LEAF,)), [1, 1]), [1])
        self.assertEqual(objectors(machine, (0, (LEAF,)), [0, 1]), [1])

    def test_two_children(self):
        machine = Machine(2, 3, [(0, [], 0), (0, [], 1), (1, [0, 1], 2)], [0, 1, 2])
        tree = (1, (LEAF, LEAF))
        self.assertEqual(objectors(machine, tree, [0, 1, 2]), [])
        self.assertEqual(objectors(machine, tree, [1, 0, 2]), [2])
        self.assertEqual(objectors(machine, tree, [0, 0, 2]), [2])
        self.assertEqual(objectors(machine, tree, [0, 1, 0]), [2])
        self.assertEqual(objectors(machine, (0, (LEAF, LEAF)), [0, 1, 2]), [2])

    def test_as_many_children(self):
        machine = Machine(1, 1, [(0, [0], 0)], [0])
        self.assertEqual(objectors(machine, LEAF, [0]), [0])
        self.assertEqual(objectors(machine, (0, (LEAF,)), [0, 0]), [0])
        self.assertEqual(objectors(machine, (0, (LEAF, LEAF)), [0, 0, 0]), [0, 1, 2])

    def test_the_root_with_a_label_that_is_no_end(self):
        machine = Machine(1, 2, [(0, [], 0), (0, [0], 0), (0, [0], 1)], [1])
        self.assertEqual(objectors(machine, LEAF, [0]), [0])
        self.assertEqual(objectors(machine, LEAF, [1]), [0])
        self.assertEqual(objectors(machine, (0, (LEAF,)), [0, 1]), [])
        self.assertEqual(objectors(machine, (0, (LEAF,)), [0, 0]), [1])

    def test_the_root_objects_once(self):
        machine = Machine(1, 2, [(0, [], 1)], [])
        self.assertEqual(objectors(machine, LEAF, [0]), [0])
        self.assertEqual(objectors(machine, (0, (LEAF,)), [1, 0]), [1])
        self.assertEqual(objectors(machine, (0, (LEAF,)), [0, 0]), [0, 1])

    def test_ends_are_asked_of_the_root_alone(self):
        machine = Machine(1, 2, [(0, [], 0), (0, [0], 0), (0, [0], 1)], [1])
        self.assertEqual(objectors(machine, row_tree([0, 0, 0]), [0, 0, 1]), [])

    def test_letters_that_the_machine_does_not_have(self):
        machine = Machine(1, 1, [(0, [], 0), (0, [0], 0), (0, [0, 0], 0)], [0])
        self.assertEqual(objectors(machine, row_tree([0, 1, 0, 5, 0]), [0] * 5), [1, 3])
        self.assertEqual(objectors(machine, (7, (LEAF, (1, ()))), [0] * 3), [1, 2])

    def test_ascending(self):
        machine = Machine(1, 1, [], [])
        for tree in [row_tree([0] * 5), (0, ((0, (LEAF, LEAF)), LEAF)), (0, (LEAF, (0, (LEAF, LEAF))))]:
            self.assertEqual(objectors(machine, tree, [0] * 5), [0, 1, 2, 3, 4])

    def test_all_lists_of_small_trees(self):
        dice = Dice(4)
        for many in [1, 1, 2, 2, 3, 3, 3, 4, 4, 4, 5, 5, 5, 6, 6]:
            machine = any_machine(dice, 2, 3, 4)
            tree = any_tree(dice, 3, many)
            for labels in lists_of(machine, many):
                self.assertEqual(objectors(machine, tree, labels), against(machine, tree, labels))

    def test_200_people_and_a_few_more(self):
        for many in [200, 204]:
            labels = [0] * many
            self.assertEqual(objectors(TURNS, row_tree([0] * many), labels), [])
            labels[77] = 1
            self.assertEqual(objectors(TURNS, row_tree([0] * many), labels), [77, 78])
            self.assertEqual(objectors(TURNS, row_tree([0] * (many - 1) + [1]), [0] * (many - 1) + [1]), [many - 1])
        for many in [199, 201, 205]:
            # In a comb the first two people have no children, and then each odd one has none.
            labels = [0, 0, 2] + [0, 2] * (many // 2 - 1)
            machine = Machine(1, 3, [(0, [], 0), (0, [0, 0], 2), (0, [2, 0], 2)], [2])
            self.assertEqual(objectors(machine, comb([0] * many), labels), [])
            self.assertEqual(objectors(machine, comb([0] * (many - 1) + [1]), labels), [many - 1])
            labels[100] = 1
            self.assertEqual(objectors(machine, comb([0] * many), labels), [100, 102])


class RingObjectors(unittest.TestCase):
    def test_one_person_is_its_own_neighbour(self):
        machine = Machine(2, 2, [(0, [0], 0), (1, [0], 1)], [])
        self.assertEqual(ring_objectors(machine, [0], [0]), [])
        self.assertEqual(ring_objectors(machine, [0], [1]), [0])
        self.assertEqual(ring_objectors(machine, [1], [0]), [0])
        self.assertEqual(ring_objectors(machine, [1], [1]), [0])

    def test_two_people(self):
        machine = Machine(2, 2, [(0, [0], 1), (1, [1], 0)], [])
        self.assertEqual(ring_objectors(machine, [0, 1], [1, 0]), [])
        self.assertEqual(ring_objectors(machine, [1, 0], [0, 1]), [])
        self.assertEqual(ring_objectors(machine, [0, 1], [0, 1]), [0, 1])
        self.assertEqual(ring_objectors(machine, [0, 0], [1, 0]), [1])
        self.assertEqual(ring_objectors(machine, [1, 1], [1, 0]), [0])

    def test_the_first_one_has_the_last_one_before_it(self):
        machine = Machine(1, 3, [(0, [0], 1), (0, [1], 2), (0, [2], 0)], [])
        self.assertEqual(ring_objectors(machine, [0, 0, 0], [0, 1, 2]), [])
        self.assertEqual(ring_objectors(machine, [0, 0, 0], [2, 0, 1]), [])
        self.assertEqual(ring_objectors(machine, [0, 0, 0, 0], [0, 1, 2, 0]), [0])
        self.assertEqual(ring_objectors(machine, [0, 0, 0, 0, 0], [0, 1, 2, 0, 1]), [0])
        self.assertEqual(ring_objectors(machine, [0, 0, 0], [2, 1, 0]), [0, 1, 2])

    def test_moves_of_no_and_of_two_children_play_no_part(self):
        machine = Machine(1, 1, [(0, [], 0), (0, [0, 0], 0)], [0])
        self.assertEqual(ring_objectors(machine, [0, 0, 0], [0, 0, 0]), [0, 1, 2])
        self.assertEqual(ring_objectors(machine, [0], [0]), [0])

    def test_ends_play_no_part(self):
        for ends in [[], [0], [1], [0, 1]]:
            machine = Machine(1, 2, [(0, [0], 1), (0, [1], 0)], ends)
            self.assertEqual(ring_objectors(machine, [0, 0], [0, 1]), [])
            self.assertEqual(ring_objectors(machine, [0, 0], [1, 1]), [0, 1])

    def test_letters_that_the_machine_does_not_have(self):
        machine = Machine(1, 1, [(0, [0], 0)], [])
        self.assertEqual(ring_objectors(machine, [1, 0, 9, 0], [0] * 4), [0, 2])
        self.assertEqual(ring_objectors(machine, [1], [0]), [0])

    def test_all_lists_of_small_rings(self):
        dice = Dice(5)
        for many in [1, 1, 1, 2, 2, 3, 3, 4, 5]:
            machine = any_machine(dice, 2, 3, 5)
            ring = [dice.below(3) for _ in range(many)]
            for labels in lists_of(machine, many):
                self.assertEqual(ring_objectors(machine, ring, labels), ring_against(machine, ring, labels))

    def test_200_people_and_a_few_more(self):
        machine = Machine(1, 2, [(0, [0], 1), (0, [1], 0)], [])
        for many in [200, 204]:
            self.assertEqual(ring_objectors(machine, [0] * many, [0, 1] * (many // 2)), [])
        self.assertEqual(ring_objectors(machine, [0] * 201, [0, 1] * 100 + [0]), [0])


class Wishes(unittest.TestCase):
    def test_rows(self):
        for row in itertools.product([0, 1], repeat=5):
            self.assertIs(wishes(TURNS, row_tree(list(row))), sum(row) % 2 == 0)

    def test_trees(self):
        self.assertIs(wishes(KINDS, LEAF), False)
        self.assertIs(wishes(KINDS, (0, (LEAF,))), True)
        self.assertIs(wishes(KINDS, (0, (LEAF, (0, (LEAF,))))), True)
        self.assertIs(wishes(KINDS, (0, ((0, (LEAF,)), LEAF))), False)
        self.assertIs(wishes(KINDS, (0, (LEAF, LEAF))), False)
        self.assertIs(wishes(KINDS, (0, (LEAF, (0, (LEAF, (0, (LEAF,))))))), True)

    def test_labels_that_meet_the_wrong_label_of_a_neighbour(self):
        # Either child has both labels, but not both children at once what the root needs.
        machine = Machine(1, 2, [(0, [], 0), (0, [0], 1), (0, [0, 1], 1), (0, [1, 0], 0)], [1])
        self.assertIs(wishes(machine, (0, (LEAF, (0, (LEAF,))))), True)
        self.assertIs(wishes(machine, (0, ((0, (LEAF,)), LEAF))), False)

    def test_no_end(self):
        machine = Machine(1, 1, [(0, [], 0), (0, [0], 0)], [])
        self.assertIs(wishes(machine, LEAF), False)
        self.assertIs(wishes(machine, row_tree([0, 0])), False)

    def test_a_machine_without_moves(self):
        machine = Machine(4, 8, [], list(range(8)))
        for tree in [LEAF, row_tree([0, 1]), (3, (LEAF, LEAF))]:
            self.assertIs(wishes(machine, tree), False)
            self.assertEqual(ways(machine, tree), 0)
        for ring in [[0], [1, 2], [0, 0, 0]]:
            self.assertIs(ring_wishes(machine, ring), False)

    def test_letters_that_the_machine_does_not_have(self):
        machine = Machine(1, 1, [(0, [], 0), (0, [0], 0), (0, [0, 0], 0)], [0])
        self.assertIs(wishes(machine, row_tree([0, 0, 0])), True)
        for tree in [(1, ()), row_tree([1, 0, 0]), row_tree([0, 5, 0]), row_tree([0, 0, 1]), (0, (LEAF, (2, ())))]:
            self.assertIs(wishes(machine, tree), False)
            self.assertEqual(ways(machine, tree), 0)
        self.assertIs(ring_wishes(machine, [0, 0]), True)
        for ring in [[1], [1, 0], [0, 1], [0, 4, 0]]:
            self.assertIs(ring_wishes(machine, ring), False)

    def test_small_trees_by_all_lists(self):
        dice = Dice(6)
        seen = []
        for many in [1, 2, 3, 4, 5, 6] * 8:
            machine = any_machine(dice, 2, 3, 3)
            tree = any_tree(dice, 2, many)
            number = sum(not against(machine, tree, labels) for labels in lists_of(machine, many))
            self.assertIs(wishes(machine, tree), number > 0)
            self.assertEqual(ways(machine, tree), number)
            seen.append(number > 0)
        self.assertEqual(set(seen), {True, False})

    def test_200_people_and_a_few_more(self):
        for many in [200, 204]:
            self.assertIs(wishes(TURNS, row_tree([1] * many)), True)
            self.assertIs(wishes(TURNS, row_tree([1] * (many - 1) + [0])), False)
        for many in [199, 201, 205]:
            tree = comb([0] * many)
            self.assertEqual(people(tree), many)
            self.assertIs(wishes(Machine(1, 1, [(0, [], 0), (0, [0, 0], 0)], [0]), tree), True)
            self.assertIs(wishes(Machine(1, 1, [(0, [], 0), (0, [0], 0)], [0]), tree), False)
            self.assertIs(wishes(Machine(1, 1, [(0, [], 0), (0, [0, 0], 0)], [0]), (0, (tree,))), False)


class RingWishes(unittest.TestCase):
    def test_labels_for_a_row_but_not_around(self):
        machine = Machine(1, 3, [(0, [], 0), (0, [0], 1), (0, [1], 2), (0, [2], 0)], [0, 1, 2])
        for many in range(1, 10):
            self.assertIs(wishes(machine, row_tree([0] * many)), True)
            self.assertIs(ring_wishes(machine, [0] * many), many % 3 == 0)

    def test_the_label_has_to_come_back_to_the_same_person(self):
        # From the label 0 and from the label 1 the ring leads to the other one alone.
        machine = Machine(1, 2, [(0, [0], 1), (0, [1], 0)], [])
        for many in range(1, 8):
            self.assertIs(ring_wishes(machine, [0] * many), many % 2 == 0)

    def test_one_person(self):
        self.assertIs(ring_wishes(Machine(1, 2, [(0, [1], 1)], []), [0]), True)
        self.assertIs(ring_wishes(Machine(1, 2, [(0, [0], 1), (0, [], 0)], [0, 1]), [0]), False)

    def test_ends_play_no_part(self):
        for ends in [[], [0], [1], [0, 1]]:
            self.assertIs(ring_wishes(Machine(1, 2, [(0, [0], 1), (0, [1], 0)], ends), [0, 0]), True)
            self.assertIs(ring_wishes(Machine(1, 2, [(0, [0], 1), (0, [1], 0)], ends), [0]), False)

    def test_small_rings_by_all_lists(self):
        dice = Dice(7)
        seen = []
        for many in [1, 2, 3, 4, 5] * 10:
            machine = any_machine(dice, 2, 3, 3)
            ring = [dice.below(2) for _ in range(many)]
            wished = any(not ring_against(machine, ring, labels) for labels in lists_of(machine, many))
            self.assertIs(ring_wishes(machine, ring), wished)
            seen.append(wished)
        self.assertEqual(set(seen), {True, False})

    def test_200_people_and_a_few_more(self):
        machine = Machine(1, 2, [(0, [0], 1), (0, [1], 0)], [])
        for many in [199, 200, 201, 204]:
            self.assertIs(ring_wishes(machine, [0] * many), many % 2 == 0)


class Ways(unittest.TestCase):
    def test_none_one_and_many(self):
        machine = Machine(2, 3, [(0, [], 0), (0, [], 1), (1, [0], 2), (1, [1], 2), (1, [1], 1), (1, [0, 1], 0)], [0, 2])
        self.assertEqual(ways(machine, (1, ())), 0)
        self.assertEqual(ways(machine, (0, ())), 1)
        self.assertEqual(ways(machine, (1, (LEAF,))), 2)
        self.assertEqual(ways(machine, (1, (LEAF, LEAF))), 1)
        self.assertEqual(ways(machine, (1, (LEAF, (1, (LEAF,))))), 1)

    def test_all_lists(self):
        for many in range(1, 6):
            self.assertEqual(ways(FULL, row_tree([0] * many)), 8 ** many)
        self.assertEqual(ways(FULL, (0, (LEAF, (0, (LEAF, LEAF))))), 8 ** 5)

    def test_a_large_number(self):
        for many in [200, 203]:
            self.assertEqual(ways(FULL, row_tree([0] * many)), 8 ** many)
        self.assertEqual(ways(FULL, comb([0] * 201)), 8 ** 201)
        # Rows of labels 0 and 1 without two 1 side by side: as many as the numbers of Fibonacci.
        apart = Machine(1, 2, [(0, [], 0), (0, [], 1), (0, [0], 0), (0, [0], 1), (0, [1], 0)], [0, 1])
        low, high = 2, 3
        for many in range(1, 201):
            self.assertEqual(ways(apart, row_tree([0] * many)), low)
            low, high = high, low + high


class Arguments(unittest.TestCase):
    def questions(self):
        dice = Dice(8)
        told = []
        for _ in range(2):
            machine = any_machine(dice, 2, 3, 6)
            tree = any_tree(dice, 2, 5)
            ring = [dice.below(2) for _ in range(5)]
            labels = [dice.below(3) for _ in range(5)]
            told.append((machine, tree, ring, labels))
        return told

    def answers(self, machine, tree, ring, labels):
        return [objectors(machine, tree, labels), ring_objectors(machine, ring, labels), wishes(machine, tree),
                ring_wishes(machine, ring), ways(machine, tree)]

    def test_they_stay_as_they_were(self):
        for question in self.questions():
            before = copy.deepcopy(question)
            self.answers(*question)
            self.assertEqual(question, before)

    def test_lists_and_tuples_are_taken_alike(self):
        for machine, tree, ring, labels in self.questions():
            self.assertEqual(self.answers(machine, tree, ring, labels),
                             self.answers(machine, tree, as_tuples(ring), as_tuples(labels)))

    def test_an_answer_may_be_changed(self):
        machine = Machine(1, 1, [], [])
        for _ in range(2):
            told = objectors(machine, row_tree([0, 0]), [0, 0])
            self.assertEqual(told, [0, 1])
            told.append(7)
            told = ring_objectors(machine, [0, 0], [0, 0])
            self.assertEqual(told, [0, 1])
            told.clear()

    def test_asked_in_turn(self):
        one, other = self.questions()
        alone = [self.answers(*one), self.answers(*other)]
        self.assertEqual([self.answers(*told) for told in [one, other, one, other]], alone * 2)
        mixed = [[machine, tree, ring, labels] for machine in [one[0], other[0]] for tree in [one[1], other[1]]
                 for ring in [one[2], other[2]] for labels in [one[3], other[3]]]
        for machine, tree, ring, labels in mixed + mixed[::-1]:
            self.assertEqual(objectors(machine, tree, labels), against(machine, tree, labels))
            self.assertEqual(ring_objectors(machine, ring, labels), ring_against(machine, ring, labels))


if __name__ == "__main__":
    unittest.main()
