"""Labels of least cost for trees: points [6] to [10] and [19], and [1] and [2] for these."""

import copy
import itertools
import unittest

from reference import (Dice, against, any_machine, any_prices, any_tree, as_lists, as_tuples, best_by_all, comb,
                       cost_with, ends_by_all, lists_of, numbers_by_all)
from someobjects.least import Found, after_change, best, fewest_objections, judge
from someobjects.machine import Machine
from someobjects.seen import wishes
from someobjects.trees import row_tree

LEAF = (0, ())
FINES = [None, 0, 1, 2, 7, 1000]
# The letter 0 keeps a label, and the letter 1 goes from one label to the other; the last one has the label 0.
TURNS = Machine(2, 2, [(0, [], 0), (1, [], 1), (0, [0], 0), (0, [1], 1), (1, [0], 1), (1, [1], 0)], [0])
FREE = Machine(1, 3, [(0, children, label) for many in range(3)
                      for children in itertools.product(range(3), repeat=many) for label in range(3)], [0, 1, 2])
TWO = (0, (LEAF, LEAF))


def small_questions(seed, many_people, highest, of_ten=4):
    """Machines, trees and prices that are small enough to go through all lists of labels."""
    dice = Dice(seed)
    for many in many_people:
        machine = any_machine(dice, 2, 3, of_ten)
        yield machine, any_tree(dice, 2, many), any_prices(dice, many, 3, highest)


class FoundCase(unittest.TestCase):
    def is_best(self, found, cost, labels):
        self.assertEqual((found.kind, found.cost, found.labels), ("best", cost, labels))

    def is_none(self, found):
        self.assertEqual((found.kind, found.cost, found.labels), ("none", None, []))

    def as_by_all(self, machine, tree, prices, fine):
        """Asks for the best labels, compares all with what the document says, and gives them back."""
        found = best(machine, tree, prices, fine)
        cost, labels = best_by_all(machine, prices, fine, len(prices), lambda told: against(machine, tree, told))
        if cost is None:
            self.is_none(found)
        else:
            self.is_best(found, cost, labels)
        self.assertEqual(found.numbers, numbers_by_all(machine, tree, prices, fine))
        self.assertEqual(found.ends, ends_by_all(machine, tree, prices, fine))
        self.assertIs(judge(machine, tree, prices, fine, found), True)
        return found


class FoundParts(unittest.TestCase):
    PARTS = ("best", 3, [0, 1], [[0, None], [2, 3]], [3, None])

    def test_fields(self):
        found = Found(*self.PARTS)
        self.assertEqual((found.kind, found.cost, found.labels, found.numbers, found.ends), self.PARTS)
        found = Found("none", None, [], [[None]], [None])
        self.assertEqual((found.kind, found.cost, found.labels, found.numbers, found.ends),
                         ("none", None, [], [[None]], [None]))

    def test_arguments_have_their_names(self):
        found = Found(kind="best", cost=3, labels=[0, 1], numbers=[[0, None], [2, 3]], ends=[3, None])
        self.assertEqual(found, Found(*self.PARTS))

    def test_equal_exactly_if_the_parts_are(self):
        others = [("none", 3, [0, 1], [[0, None], [2, 3]], [3, None]),
                  ("best", 4, [0, 1], [[0, None], [2, 3]], [3, None]),
                  ("best", None, [0, 1], [[0, None], [2, 3]], [3, None]),
                  ("best", 3, [1, 1], [[0, None], [2, 3]], [3, None]),
                  ("best", 3, [0], [[0, None], [2, 3]], [3, None]),
                  ("best", 3, [], [[0, None], [2, 3]], [3, None]),
                  ("best", 3, [0, 1], [[0, None], [2, 4]], [3, None]),
                  ("best", 3, [0, 1], [[0, 0], [2, 3]], [3, None]),
                  ("best", 3, [0, 1], [[0, None]], [3, None]),
                  ("best", 3, [0, 1], [[[0, None], [2, 3]]], [3, None]),
                  ("best", 3, [0, 1], [[0, None], [2, 3]], [3, 0]),
                  ("best", 3, [0, 1], [[0, None], [2, 3]], [3]),
                  ("best", 3, [0, 1], [[0, None], [2, 3]], [])]
        every = [self.PARTS] + others
        for at, one in enumerate(every):
            for where, other in enumerate(every):
                self.assertIs(Found(*one) == Found(*other), at == where)
                self.assertIs(Found(*one) != Found(*other), at != where)

    def test_nothing_else_is_equal_to_a_found(self):
        found = Found(*self.PARTS)
        for thing in [None, 3, "best", self.PARTS, list(self.PARTS), Machine(1, 1, [], [])]:
            self.assertFalse(found == thing)
            self.assertTrue(found != thing)

    def test_lists_and_tuples_are_taken_alike(self):
        kind, cost, *rest = self.PARTS
        found = Found(kind, cost, *as_tuples(rest))
        self.assertEqual(found, Found(*self.PARTS))
        self.assertEqual([found.labels, found.numbers, found.ends], rest)
        runs = [[[0, None], [1, 2]], [[None, 0], [3, 4]]]
        found = Found("best", 1, (0, 0), as_tuples(runs), ())
        self.assertEqual(found, Found("best", 1, [0, 0], runs, []))
        self.assertEqual([found.labels, found.numbers, found.ends], [[0, 0], runs, []])

    def test_it_does_not_change_with_the_lists(self):
        labels, row, ends = [0, 1], [0, None], [3, None]
        numbers = [row, [2, 3]]
        found = Found("best", 3, labels, numbers, ends)
        labels.append(2)
        row[0] = 9
        numbers.append([5])
        ends[1] = 4
        self.assertEqual(found, Found(*self.PARTS))

    def test_it_does_not_change_with_the_lists_of_a_ring(self):
        row = [0, None]
        rows = [row, [2, 3]]
        runs = [rows, [[None, 0], [4, 5]]]
        found = Found("best", 3, [0, 1], runs, [])
        row[0] = 9
        rows[1] = [7, 7]
        runs.append([])
        self.assertEqual(found, Found("best", 3, [0, 1], [[[0, None], [2, 3]], [[None, 0], [4, 5]]], []))

    def test_it_does_not_change_its_arguments(self):
        parts = as_lists(self.PARTS[2:])
        before = copy.deepcopy(parts)
        found = Found("best", 3, *parts)
        found.labels.append(5)
        found.numbers[0][0] = 5
        found.ends.clear()
        self.assertEqual(parts, before)


class Worked(FoundCase):
    """Prices and numbers that are reckoned by hand."""

    def test_one_person(self):
        machine = Machine(1, 3, [(0, [], 0), (0, [], 2)], [1, 2])
        found = best(machine, LEAF, [[4, 1, 6]], None)
        self.is_best(found, 6, [2])
        self.assertEqual(found.numbers, [[4, None, 6]])
        self.assertEqual(found.ends, [None, None, 6])
        found = best(machine, LEAF, [[4, 1, 6]], 3)
        self.is_best(found, 4, [1])
        self.assertEqual(found.numbers, [[4, 4, 6]])
        self.assertEqual(found.ends, [7, 4, 6])

    def test_the_root_objects_once_for_its_move_and_its_end(self):
        found = best(Machine(1, 2, [(0, [], 0)], []), LEAF, [[1, 1]], 5)
        self.assertEqual(found.numbers, [[1, 6]])
        self.assertEqual(found.ends, [6, 6])
        self.is_best(found, 6, [0])
        found = best(Machine(1, 2, [(0, [], 0)], [1]), LEAF, [[1, 1]], 5)
        self.assertEqual(found.ends, [6, 6])

    def test_a_row(self):
        found = best(TURNS, row_tree([0, 1, 0]), [[0, 0], [0, 1], [5, 0]], 2)
        self.assertEqual(found.numbers, [[0, 2], [2, 1], [7, 1]])
        self.assertEqual(found.ends, [7, 3])
        self.is_best(found, 3, [0, 1, 1])
        found = best(TURNS, row_tree([0, 1, 0]), [[0, 0], [0, 1], [5, 0]], None)
        self.assertEqual(found.numbers, [[0, None], [None, 1], [None, 1]])
        self.assertEqual(found.ends, [None, None])
        self.is_none(found)

    def test_two_children(self):
        machine = Machine(1, 2, [(0, [], 0), (0, [], 1), (0, [0, 1], 1)], [1])
        found = best(machine, TWO, [[1, 2], [3, 4], [5, 6]], None)
        self.assertEqual(found.numbers, [[1, 2], [3, 4], [None, 11]])
        self.assertEqual(found.ends, [None, 11])
        self.is_best(found, 11, [0, 1, 1])
        found = best(machine, TWO, [[1, 2], [3, 4], [5, 6]], 0)
        self.assertEqual(found.numbers, [[1, 2], [3, 4], [9, 10]])
        self.assertEqual(found.ends, [9, 10])
        self.is_best(found, 9, [0, 0, 0])

    def test_children_in_the_other_order(self):
        machine = Machine(1, 2, [(0, [], 0), (0, [], 1), (0, [1, 0], 1)], [1])
        found = best(machine, TWO, [[1, 2], [3, 4], [5, 6]], None)
        self.is_best(found, 11, [1, 0, 1])

    def test_the_root_may_take_other_labels_below_for_its_second_list(self):
        # With the label 1, which is no end, the root objects anyway, so its child may be of any label.
        machine = Machine(1, 2, [(0, [], 0), (0, [], 1), (0, [1], 1)], [])
        found = best(machine, row_tree([0, 0]), [[0, 3], [9, 0]], 4)
        self.assertEqual(found.numbers, [[0, 3], [13, 3]])
        self.assertEqual(found.ends, [13, 4])
        self.is_best(found, 4, [0, 1])

    def test_a_letter_that_the_machine_does_not_have(self):
        tree = row_tree([0, 2, 0])
        self.is_none(best(TURNS, tree, [[0, 0]] * 3, None))
        self.assertEqual(best(TURNS, tree, [[0, 0]] * 3, None).numbers, [[0, None], [None, None], [None, None]])
        found = best(TURNS, tree, [[0, 0], [0, 0], [0, 0]], 3)
        self.is_best(found, 3, [0, 0, 0])
        self.assertEqual(found.numbers, [[0, 3], [3, 3], [3, 3]])
        self.assertEqual(found.ends, [3, 6])

    def test_none_throughout(self):
        found = best(Machine(1, 3, [], [0, 1, 2]), TWO, [[1, 1, 1]] * 3, None)
        self.is_none(found)
        self.assertEqual(found.numbers, [[None] * 3] * 3)
        self.assertEqual(found.ends, [None] * 3)
        found = best(Machine(1, 3, [(0, [], 1)], [0, 1, 2]), TWO, [[1, 1, 1]] * 3, None)
        self.assertEqual(found.numbers, [[None, 1, None], [None, 1, None], [None] * 3])

    def test_large_prices_and_fines(self):
        found = best(TURNS, row_tree([1, 1]), [[10 ** 30, 10 ** 40], [0, 10 ** 50]], 10 ** 60)
        self.is_best(found, 10 ** 40, [1, 0])


class FirstOfSeveral(FoundCase):
    def test_all_lists_cost_the_same(self):
        for tree in [LEAF, row_tree([0] * 3), TWO, (0, (TWO, LEAF)), (0, (LEAF, TWO))]:
            many = len(best(FREE, tree, [[0] * 3] * 5, None).numbers)
            for fine in FINES:
                self.is_best(best(FREE, tree, [[2] * 3] * many, fine), 2 * many, [0] * many)

    def test_the_list_counts_before_the_label_of_the_root(self):
        # The root can have the label 0 above a 1, or the label 1 above a 0: the first list has the root with 1.
        machine = Machine(1, 2, [(0, [], 0), (0, [], 1), (0, [0], 1), (0, [1], 0)], [0, 1])
        for fine in [None, 1, 5]:
            self.is_best(best(machine, row_tree([0, 0]), [[0, 0], [0, 0]], fine), 0, [0, 1])
            self.is_best(best(machine, row_tree([0, 0, 0]), [[0, 0]] * 3, fine), 0, [0, 1, 0])
            self.is_best(best(machine, row_tree([0, 0, 0]), [[1, 0], [0, 0], [0, 0]], fine), 0, [1, 0, 1])

    def test_the_first_child_counts_before_the_second_one(self):
        moves = [(0, [], 0), (0, [], 1), (0, [0, 1], 1), (0, [1, 0], 0)]
        machine = Machine(1, 2, moves, [0, 1])
        self.is_best(best(machine, TWO, [[0, 0]] * 3, None), 0, [0, 1, 1])
        self.is_best(best(machine, TWO, [[1, 0], [0, 1], [0, 0]], None), 0, [1, 0, 0])

    def test_the_people_far_below_count_first(self):
        # A grandchild with the label 0 stands below a child with 2, one with 1 below 0: the child's label is later.
        moves = [(0, [], 0), (0, [], 1), (1, [0], 2), (1, [1], 0), (2, [2], 0), (2, [0], 0)]
        machine = Machine(3, 3, moves, [0])
        self.is_best(best(machine, row_tree([0, 1, 2]), [[0] * 3] * 3, None), 0, [0, 2, 0])
        self.is_best(best(machine, row_tree([0, 1, 2]), [[1, 0, 0], [0, 0, 0], [0, 0, 0]], None), 0, [1, 0, 0])

    def test_the_end_of_the_list_decides_where_the_beginning_is_alike(self):
        machine = Machine(1, 3, [(0, [], 1), (0, [1], 2), (0, [1], 0)], [0, 2])
        self.is_best(best(machine, row_tree([0, 0]), [[0] * 3] * 2, None), 0, [1, 0])
        self.is_best(best(machine, row_tree([0, 0]), [[0] * 3, [1, 0, 0]], None), 0, [1, 2])

    def test_many_equal_prices(self):
        for machine, tree, prices in small_questions(20, [2, 3, 4, 5, 6] * 6, 0):
            for fine in [None, 0, 1]:
                self.as_by_all(machine, tree, prices, fine)
        for machine, tree, prices in small_questions(21, [3, 4, 5] * 6, 1, 7):
            for fine in [None, 0, 1]:
                self.as_by_all(machine, tree, prices, fine)


class ByAllLists(FoundCase):
    def test_small_trees(self):
        kinds = []
        for machine, tree, prices in small_questions(22, [1, 2, 3, 4, 5] * 10, 9):
            for fine in FINES:
                kinds.append((fine is None, self.as_by_all(machine, tree, prices, fine).kind))
        # Both kinds without a fine, and never "none" with one.
        self.assertEqual(set(kinds), {(True, "best"), (True, "none"), (False, "best")})

    def test_no_child_one_and_two(self):
        for machine, _, prices in small_questions(23, [5] * 6, 9):
            for tree, many in [(LEAF, 1), ((1, ()), 1), ((1, (LEAF,)), 2), (row_tree([0, 1, 0, 1]), 4), (TWO, 3),
                               ((1, ((1, (LEAF, LEAF)), LEAF)), 5), ((1, (LEAF, (1, (LEAF, LEAF)))), 5)]:
                for fine in [None, 0, 3]:
                    self.as_by_all(machine, tree, prices[:many], fine)

    def test_letters_that_the_machine_does_not_have(self):
        dice = Dice(24)
        for many in [1, 2, 3, 4, 5] * 4:
            machine = any_machine(dice, 1, 3, 6)
            for fine in [None, 0, 4]:
                self.as_by_all(machine, any_tree(dice, 3, many), any_prices(dice, many, 3, 5), fine)

    def test_one_label_and_eight(self):
        dice = Dice(25)
        for labels, many in [(1, 1), (1, 4), (1, 6), (2, 6), (8, 1), (8, 2), (8, 3)]:
            machine = any_machine(dice, 1, labels, 3)
            for fine in [None, 0, 4]:
                self.as_by_all(machine, any_tree(dice, 1, many), any_prices(dice, many, labels, 5), fine)


class ManyPeople(FoundCase):
    def test_rows_of_200_and_a_few_more(self):
        for many in [200, 204]:
            tree = row_tree([1] * many)
            prices = [[0, at % 3] for at in range(many)]
            found = best(TURNS, tree, prices, None)
            labels = [1, 0] * (many // 2)
            self.is_best(found, sum(own[label] for own, label in zip(prices, labels)), labels)
            self.assertIs(judge(TURNS, tree, prices, None, found), True)
            self.is_best(best(TURNS, tree, prices, 1000), found.cost, labels)
            found = fewest_objections(TURNS, row_tree([1] * (many - 1) + [0]))
            self.is_best(found, 1, [0, 1] * (many // 2 - 1) + [0, 0])
            self.is_best(after_change(TURNS, tree, [0] * many), many // 2, labels)

    def test_two_children_at_a_node(self):
        for many in [199, 201, 205]:
            dice = Dice(many)
            prices = any_prices(dice, many, 3, 9)
            tree = comb([0] * many)
            found = best(FREE, tree, prices, None)
            self.is_best(found, sum(min(own) for own in prices), [own.index(min(own)) for own in prices])
            self.assertIs(judge(FREE, tree, prices, None, found), True)
            found.numbers[many // 2][1] += 1
            self.assertIs(judge(FREE, tree, prices, None, found), False)

    def test_200_people_and_one_child_at_the_root(self):
        tree = (0, (comb([0] * 199),))
        found = best(FREE, tree, [[3, 2, 2]] * 200, 5)
        self.is_best(found, 400, [1] * 200)
        self.assertIs(judge(FREE, tree, [[3, 2, 2]] * 200, 5, found), True)


class Judge(FoundCase):
    def changed(self, found, **parts):
        """What is found, with some parts put in place of its own."""
        told = {"kind": found.kind, "cost": found.cost, "labels": found.labels, "numbers": found.numbers,
                "ends": found.ends}
        told.update(copy.deepcopy(parts))
        return Found(**told)

    def refused(self, question, found):
        self.assertIs(judge(*question, found), False, vars(found))

    def questions(self):
        """Questions, each with what is found: of both kinds, with None and without it."""
        for machine, tree, prices in small_questions(30, [1, 2, 3, 4, 5] * 3, 4):
            for fine in [None, 0, 3]:
                question = (machine, tree, prices, fine)
                yield question, best(*question)

    def test_both_kinds_are_asked(self):
        self.assertEqual({found.kind for _, found in self.questions()}, {"best", "none"})
        self.assertTrue(any(None in row for _, found in self.questions() for row in found.numbers))

    def test_it_holds(self):
        for question, found in self.questions():
            self.assertIs(judge(*question, found), True)
            self.assertIs(judge(*question, self.changed(found)), True)

    def test_one_number_changed(self):
        for question, found in self.questions():
            for at, row in enumerate(found.numbers):
                for label, number in enumerate(row):
                    for other in [None, 0, -1, 1000] + ([] if number is None else [number - 1, number + 1]):
                        if other != number:
                            numbers = copy.deepcopy(found.numbers)
                            numbers[at][label] = other
                            self.refused(question, self.changed(found, numbers=numbers))

    def test_one_number_of_the_second_list_changed(self):
        for question, found in self.questions():
            for label, number in enumerate(found.ends):
                for other in [None, 0, -1, 1000] + ([] if number is None else [number - 1, number + 1]):
                    if other != number:
                        ends = list(found.ends)
                        ends[label] = other
                        self.refused(question, self.changed(found, ends=ends))

    def test_one_number_left_out_or_doubled(self):
        for question, found in self.questions():
            for at, row in enumerate(found.numbers):
                for label in range(len(row)):
                    for other in [row[:label] + row[label + 1:], row[:label] + [row[label]] + row[label:]]:
                        numbers = found.numbers[:at] + [other] + found.numbers[at + 1:]
                        self.refused(question, self.changed(found, numbers=numbers))
            for label in range(len(found.ends)):
                self.refused(question, self.changed(found, ends=found.ends[:label] + found.ends[label + 1:]))
                self.refused(question, self.changed(found, ends=found.ends[:label + 1] + found.ends[label:]))
            self.refused(question, self.changed(found, ends=[]))

    def test_one_row_left_out_or_doubled(self):
        for question, found in self.questions():
            numbers = found.numbers
            for at in range(len(numbers)):
                self.refused(question, self.changed(found, numbers=numbers[:at] + numbers[at + 1:]))
                self.refused(question, self.changed(found, numbers=numbers[:at + 1] + numbers[at:]))
                self.refused(question, self.changed(found, numbers=numbers[:at] + [[]] + numbers[at + 1:]))
            self.refused(question, self.changed(found, numbers=[]))
            self.refused(question, self.changed(found, numbers=numbers + [found.ends]))

    def test_a_cost_changed(self):
        for question, found in self.questions():
            for cost in [None, 0, -1, 1000] + ([] if found.cost is None else [found.cost - 1, found.cost + 1]):
                if cost != found.cost:
                    self.refused(question, self.changed(found, cost=cost))

    def test_a_kind_changed(self):
        for question, found in self.questions():
            for kind in ["best", "none", "", "Best", "least"]:
                if kind != found.kind:
                    self.refused(question, self.changed(found, kind=kind))

    def test_all_labels(self):
        seen = []
        for question, found in self.questions():
            machine, tree, prices, fine = question
            for labels in lists_of(machine, len(prices)):
                cost = cost_with(prices, fine, labels, len(against(machine, tree, labels)))
                right = found.kind == "best" and cost == found.cost
                told = self.changed(found, labels=labels)
                self.assertIs(judge(*question, told), right)
                seen.append((right, labels == found.labels))
                if not right:
                    # Neither with the cost that they have.
                    self.refused(question, self.changed(told, cost=cost))
                    self.refused(question, self.changed(told, cost=cost, kind="best"))
        # Other labels of the same least cost are among them.
        self.assertEqual(set(seen), {(True, True), (True, False), (False, False)})

    def test_labels_too_few_too_many_or_beyond_those_of_the_machine(self):
        for question, found in self.questions():
            labels = found.labels
            wrong = [labels + [0], [0] + labels]
            for at in range(len(labels)):
                wrong.append(labels[:at] + labels[at + 1:])
                wrong.append(labels[:at + 1] + labels[at:])
                for label in [-3, -2, -1, 3, 4, 100]:
                    wrong.append(labels[:at] + [label] + labels[at + 1:])
            for told in wrong:
                self.refused(question, self.changed(found, labels=told))

    def test_labels_below_0_that_would_cost_the_same(self):
        # As an index, -1 would be the last label, and the fine counts as often.
        question = (Machine(1, 1, [], [0]), LEAF, [[5]], 2)
        found = best(*question)
        self.is_best(found, 7, [0])
        self.refused(question, self.changed(found, labels=[-1]))

    def test_labels_too_few_where_the_rest_costs_nothing(self):
        question = (FREE, row_tree([0, 0, 0]), [[0] * 3] * 3, None)
        found = best(*question)
        for labels in [[], [0], [0, 0], [0] * 4]:
            self.refused(question, self.changed(found, labels=labels))

    def test_none_where_a_cost_follows(self):
        for question, found in self.questions():
            if found.kind == "best":
                self.refused(question, self.changed(found, kind="none", cost=None, labels=[]))
                self.refused(question, self.changed(found, kind="none", cost=None))
                self.refused(question, self.changed(found, kind="none", labels=[]))

    def test_none_with_a_cost_or_labels(self):
        asked = 0
        for question, found in self.questions():
            if found.kind == "none":
                asked += 1
                zeros = [0] * len(found.numbers)
                for kind in ["none", "best"]:
                    for cost, labels in [(0, []), (None, zeros), (0, zeros), (1000, zeros), (None, [0])]:
                        self.refused(question, self.changed(found, kind=kind, cost=cost, labels=labels))
                self.refused(question, self.changed(found, kind="best"))
        self.assertTrue(asked)

    def test_numbers_that_fit_each_other_but_not_the_prices(self):
        # The numbers of other prices and of another fine are refused as a whole.
        question = (TURNS, row_tree([0, 1, 1]), [[1, 2], [3, 4], [5, 6]], 7)
        self.assertIs(judge(*question, best(*question)), True)
        self.refused(question, best(TURNS, question[1], [[1, 2], [3, 4], [5, 7]], 7))
        self.refused(question, best(TURNS, question[1], [[1, 3], [3, 4], [5, 6]], 7))
        self.refused(question, best(TURNS, question[1], question[2], 8))
        self.refused(question, best(TURNS, question[1], question[2], None))
        self.refused(question, best(TURNS, row_tree([0, 1, 0]), question[2], 7))

    def test_what_is_found_of_a_ring(self):
        question = (TURNS, row_tree([0, 0]), [[0, 0]] * 2, 1)
        self.refused(question, Found("best", 0, [0, 0], [[[0, None], [0, 1]], [[None, 0], [1, 0]]], []))


class FewestObjections(FoundCase):
    def test_trees_that_are_wished_and_not(self):
        self.is_best(fewest_objections(TURNS, row_tree([0, 1, 1, 0])), 0, [0, 1, 0, 0])
        self.is_best(fewest_objections(TURNS, row_tree([0, 1, 0, 0])), 1, [0, 0, 0, 0])
        self.is_best(fewest_objections(Machine(1, 2, [], []), TWO), 3, [0, 0, 0])

    def test_it_is_the_found_for_prices_of_0_and_the_fine_1(self):
        seen = []
        for machine, tree, prices in small_questions(40, [1, 2, 3, 4, 5] * 8, 4):
            found = fewest_objections(machine, tree)
            many = len(prices)
            least = min(len(against(machine, tree, labels)) for labels in lists_of(machine, many))
            self.assertEqual(found, best(machine, tree, [[0] * 3] * many, 1))
            self.assertEqual((found.kind, found.cost), ("best", least))
            self.assertIs(found.cost == 0, wishes(machine, tree))
            self.assertIs(judge(machine, tree, [[0] * 3] * many, 1, found), True)
            seen.append(min(least, 2))
        self.assertEqual(set(seen), {0, 1, 2})


class AfterChange(FoundCase):
    def test_old_labels_without_objection(self):
        found = after_change(TURNS, row_tree([0, 1, 1]), [0, 1, 0])
        self.is_best(found, 0, [0, 1, 0])
        self.assertEqual(found.numbers, [[0, None], [None, 0], [0, None]])
        self.assertEqual(found.ends, [0, None])

    def test_one_person_changed(self):
        self.is_best(after_change(TURNS, row_tree([0, 1, 1]), [0, 0, 0]), 1, [0, 1, 0])
        self.is_best(after_change(TURNS, row_tree([0, 1, 1]), [0, 1, 1]), 1, [0, 1, 0])

    def test_several_people_changed(self):
        found = after_change(TURNS, row_tree([1, 0, 0, 1]), [0, 0, 0, 0])
        self.is_best(found, 3, [1, 1, 1, 0])
        self.assertEqual(found.ends, [3, None])

    def test_several_answers(self):
        # Neighbours have unlike labels; in the middle or at the ends something has to give way.
        moves = [(0, [], label) for label in range(3)]
        moves += [(0, [below], label) for below in range(3) for label in range(3) if below != label]
        machine = Machine(1, 3, moves, [0, 1, 2])
        self.is_best(after_change(machine, row_tree([0, 0]), [1, 1]), 1, [0, 1])
        self.is_best(after_change(machine, row_tree([0, 0]), [0, 0]), 1, [0, 1])
        self.is_best(after_change(machine, row_tree([0, 0, 0]), [2, 2, 2]), 1, [2, 0, 2])
        self.is_best(after_change(machine, row_tree([0, 0, 0, 0]), [0, 0, 0, 0]), 2, [0, 1, 0, 1])
        self.is_best(after_change(machine, row_tree([0, 0, 0, 0]), [2, 2, 2, 2]), 2, [0, 2, 0, 2])

    def test_a_tree_that_is_not_wished(self):
        found = after_change(TURNS, row_tree([0, 1, 0]), [0, 1, 1])
        self.is_none(found)
        self.assertEqual(found.numbers, [[0, None], [None, 0], [None, 0]])
        self.assertEqual(found.ends, [None, None])
        self.is_none(after_change(TURNS, row_tree([0, 5]), [0, 0]))

    def test_by_all_lists(self):
        kinds = []
        for machine, tree, prices in small_questions(41, [1, 2, 3, 4, 5, 6] * 8, 2, 5):
            old = [own[0] for own in prices]
            found = after_change(machine, tree, old)
            right = [labels for labels in lists_of(machine, len(old)) if not against(machine, tree, labels)]
            kinds.append(found.kind)
            if right:
                unlike = [sum(new != kept for new, kept in zip(labels, old)) for labels in right]
                self.is_best(found, min(unlike), right[unlike.index(min(unlike))])
            else:
                self.is_none(found)
            asked = [[int(label != kept) for label in range(3)] for kept in old]
            self.assertEqual(found, best(machine, tree, asked, None))
            self.assertIs(judge(machine, tree, asked, None, found), True)
        self.assertEqual(set(kinds), {"best", "none"})


class Arguments(FoundCase):
    def questions(self):
        """Two questions that differ in machine, tree, prices and fine."""
        for fine, (machine, tree, prices) in zip([None, 2], small_questions(50, [5, 5], 4, 7)):
            yield machine, tree, prices, fine

    def answers(self, machine, tree, prices, fine):
        found = best(machine, tree, prices, fine)
        old = [own[0] % 3 for own in prices]
        return [found, judge(machine, tree, prices, fine, found), fewest_objections(machine, tree),
                after_change(machine, tree, old)]

    def test_they_stay_as_they_were(self):
        for question in self.questions():
            found = best(*question)
            old = [1] * 5
            told = (question, found, old)
            before = copy.deepcopy(told)
            best(*question)
            judge(*question, found)
            fewest_objections(*question[:2])
            after_change(*question[:2], old)
            self.assertEqual(told, before)

    def test_lists_and_tuples_are_taken_alike(self):
        for machine, tree, prices, fine in self.questions():
            self.assertEqual(best(machine, tree, as_tuples(prices), fine), best(machine, tree, prices, fine))
            found = best(machine, tree, prices, fine)
            same = Found(found.kind, found.cost, *as_tuples([found.labels, found.numbers, found.ends]))
            for asked in [prices, as_tuples(prices)]:
                for told in [found, same]:
                    self.assertIs(judge(machine, tree, asked, fine, told), True)
            self.assertEqual(after_change(machine, tree, (0, 1, 2, 1, 0)), after_change(machine, tree, [0, 1, 2, 1, 0]))

    def test_parts_of_what_is_found_are_lists(self):
        for machine, tree, prices, fine in self.questions():
            for found in [best(machine, tree, as_tuples(prices), fine), after_change(machine, tree, (0,) * 5)]:
                for part in [found.labels, found.numbers, found.ends, *found.numbers]:
                    self.assertIsInstance(part, list)

    def test_an_answer_may_be_changed(self):
        for question in self.questions():
            old = [0, 1, 2, 1, 0]
            asked = [lambda: best(*question), lambda: fewest_objections(*question[:2]),
                     lambda: after_change(*question[:2], old)]
            for ask in asked:
                first = ask()
                kept = copy.deepcopy(first)
                first.labels.append(9)
                first.ends[0] = 77
                first.ends.append(1)
                for row in first.numbers:
                    row[0] = 99
                    row.append(1)
                first.numbers.pop()
                first.cost = -1
                self.assertEqual(ask(), kept)

    def test_no_two_rows_are_the_same_list(self):
        found = best(Machine(1, 2, [(0, [], 0)], [0]), LEAF, [[1, 1]], 1)
        found.ends[0] = 50
        self.assertEqual(found.numbers, [[1, 2]])
        found = fewest_objections(FREE, row_tree([0, 0, 0]))
        found.numbers[0][0] = 50
        self.assertEqual(found.numbers[1:], [[0] * 3] * 2)

    def test_asked_in_turn(self):
        one, other = list(self.questions())
        alone = [self.answers(*one), self.answers(*other)]
        self.assertNotEqual(alone[0], alone[1])
        for _ in range(2):
            self.assertEqual([self.answers(*one), self.answers(*other)], alone)
        mixed = list(itertools.product(*zip(one, other)))
        first = [self.answers(*question) for question in mixed]
        self.assertEqual([self.answers(*question) for question in mixed], first)
        for question in mixed[::-1]:
            self.as_by_all(*question)


if __name__ == "__main__":
    unittest.main()
