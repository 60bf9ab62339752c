"""Labels of least cost for rings: point [11], with [6], [9], [1] and [2] for these."""

import copy
import itertools
import unittest

from reference import (Dice, any_machine, any_prices, as_tuples, best_by_all, cost_with, least, lists_of,
                       ring_against, ring_numbers_by_all)
from someobjects.least import Found, best
from someobjects.machine import Machine
from someobjects.ring import best_ring, judge_ring
from someobjects.seen import ring_wishes
from someobjects.trees import row_tree

FINES = [None, 0, 1, 3, 1000]
# Each one has the label that the one before does not have.
UNLIKE = Machine(1, 2, [(0, [0], 1), (0, [1], 0)], [])
# Moves of no child and of two, and ends, play no part in a ring.
BESIDE = Machine(1, 2, [(0, [], 0), (0, [], 1), (0, [0, 0], 0), (0, [0], 1), (0, [1], 0)], [1])


def small_questions(seed, many_people, highest, of_ten=5):
    """Machines, rings and prices that are small enough to go through all lists of labels."""
    dice = Dice(seed)
    for many in many_people:
        machine = any_machine(dice, 2, 3, of_ten)
        ring = [dice.below(2) for _ in range(many)]
        yield machine, ring, any_prices(dice, many, 3, highest)


class RingCase(unittest.TestCase):
    def is_best(self, found, cost, labels):
        self.assertEqual((found.kind, found.cost, found.labels, found.ends), ("best", cost, labels, []))

    def is_none(self, found):
        self.assertEqual((found.kind, found.cost, found.labels, found.ends), ("none", None, [], []))

    def as_by_all(self, machine, ring, prices, fine):
        """Asks for the best labels, compares all with what the document says, and gives them back."""
        found = best_ring(machine, ring, prices, fine)
        cost, labels = best_by_all(machine, prices, fine, len(ring), lambda told: ring_against(machine, ring, told))
        if cost is None:
            self.is_none(found)
        else:
            self.is_best(found, cost, labels)
        self.assertEqual(found.numbers, ring_numbers_by_all(machine, ring, prices, fine))
        self.assertIs(judge_ring(machine, ring, prices, fine, found), True)
        return found


class Worked(RingCase):
    """Prices and numbers that are reckoned by hand."""

    def test_one_person(self):
        machine = Machine(1, 3, [(0, [1], 1), (0, [0], 1), (0, [2], 2)], [])
        found = best_ring(machine, [0], [[0, 5, 4]], None)
        self.is_best(found, 4, [2])
        self.assertEqual(found.numbers, [[[0, None, None]], [[None, 0, None]], [[None, None, 0]]])
        self.is_best(best_ring(machine, [0], [[0, 5, 4]], 3), 3, [0])
        self.is_best(best_ring(machine, [0], [[0, 4, 4]], 4), 4, [0])
        self.is_none(best_ring(Machine(1, 2, [(0, [0], 1), (0, [1], 0)], []), [0], [[0, 0]], None))

    def test_two_people(self):
        found = best_ring(UNLIKE, [0, 0], [[1, 2], [3, 5]], None)
        self.is_best(found, 5, [1, 0])
        self.assertEqual(found.numbers, [[[0, None], [None, 5]], [[None, 0], [3, None]]])
        found = best_ring(UNLIKE, [0, 0], [[1, 2], [3, 9]], 0)
        self.is_best(found, 4, [0, 0])
        self.assertEqual(found.numbers, [[[0, None], [3, 9]], [[None, 0], [3, 9]]])

    def test_three_people(self):
        self.is_none(best_ring(UNLIKE, [0, 0, 0], [[0, 0]] * 3, None))
        found = best_ring(UNLIKE, [0, 0, 0], [[0, 0]] * 3, 4)
        self.is_best(found, 4, [0, 0, 1])
        self.assertEqual(found.numbers[0], [[0, None], [4, 0], [0, 4]])
        self.assertEqual(found.numbers[1], [[None, 0], [0, 4], [4, 0]])

    def test_the_price_and_the_fine_of_the_first_one_come_last(self):
        # The numbers do not have them; they count once, when the first one looks at the last one.
        found = best_ring(UNLIKE, [0, 0, 0], [[7, 100], [0, 0], [0, 0]], 2)
        self.assertEqual(found.numbers[0], [[0, None], [2, 0], [0, 2]])
        self.is_best(found, 9, [0, 0, 1])

    def test_the_kind_none_has_its_numbers(self):
        found = best_ring(UNLIKE, [0, 0, 0], [[1, 2], [3, 4], [5, 6]], None)
        self.is_none(found)
        self.assertEqual(found.numbers, [[[0, None], [None, 4], [9, None]], [[None, 0], [3, None], [None, 9]]])

    def test_ends_and_moves_of_other_numbers_of_children_play_no_part(self):
        for many in range(1, 6):
            prices = [[at, 2] for at in range(many)]
            for fine in FINES:
                self.assertEqual(best_ring(BESIDE, [0] * many, prices, fine),
                                 best_ring(UNLIKE, [0] * many, prices, fine))

    def test_a_letter_that_the_machine_does_not_have(self):
        for ring in [[1, 0], [0, 1]]:
            self.is_none(best_ring(UNLIKE, ring, [[0, 0]] * 2, None))
            self.is_best(best_ring(UNLIKE, ring, [[0, 0]] * 2, 6), 6, [0, 1])

    def test_the_first_of_several(self):
        free = Machine(1, 3, [(0, [below], label) for below in range(3) for label in range(3)], [])
        for many in range(1, 6):
            for fine in FINES:
                self.is_best(best_ring(free, [0] * many, [[1] * 3] * many, fine), many, [0] * many)
        self.is_best(best_ring(UNLIKE, [0] * 4, [[1, 1]] * 4, None), 4, [0, 1, 0, 1])
        self.is_best(best_ring(UNLIKE, [0] * 4, [[2, 1]] + [[1, 1]] * 3, None), 4, [1, 0, 1, 0])
        # The second person counts before the last one: 0 1 2 stands ahead of 0 2 0, which ends with less.
        moves = [(0, [0], 1), (0, [0], 2), (0, [1], 2), (0, [2], 0), (0, [0], 0)]
        machine = Machine(1, 3, moves, [])
        prices = [[0, 1, 1], [1, 0, 0], [0, 1, 0]]
        self.is_best(best_ring(machine, [0] * 3, prices, None), 0, [0, 1, 2])


class ByAllLists(RingCase):
    def test_small_rings(self):
        kinds = []
        for machine, ring, prices in small_questions(60, [1, 2, 3, 4, 5] * 8, 9, 3):
            for fine in FINES:
                kinds.append((fine is None, self.as_by_all(machine, ring, prices, fine).kind))
        self.assertEqual(set(kinds), {(True, "best"), (True, "none"), (False, "best")})

    def test_several_best_lists(self):
        for highest, of_ten in [(0, 4), (1, 5), (1, 8)]:
            for machine, ring, prices in small_questions(61 + of_ten, [1, 2, 3, 4, 5] * 4, highest, of_ten):
                for fine in [None, 0, 1]:
                    self.as_by_all(machine, ring, prices, fine)

    def test_letters_that_the_machine_does_not_have(self):
        dice = Dice(70)
        for many in [1, 2, 3, 4] * 4:
            machine = any_machine(dice, 1, 3, 6)
            ring = [dice.below(3) for _ in range(many)]
            for fine in [None, 0, 4]:
                self.as_by_all(machine, ring, any_prices(dice, many, 3, 5), fine)

    def test_one_label_and_eight(self):
        dice = Dice(71)
        for labels, many in [(1, 1), (1, 4), (2, 6), (8, 1), (8, 2), (8, 3)]:
            machine = any_machine(dice, 1, labels, 3)
            for fine in [None, 0, 4]:
                self.as_by_all(machine, [0] * many, any_prices(dice, many, labels, 5), fine)

    def test_the_least_cost_follows_from_the_numbers(self):
        for machine, ring, prices in small_questions(72, [1, 2, 3, 4] * 5, 6):
            for fine in FINES:
                found = best_ring(machine, ring, prices, fine)
                sums = []
                for first, last in itertools.product(range(3), repeat=2):
                    number = found.numbers[first][-1][last]
                    objects = (ring[0], (last,), first) not in machine.moves
                    if number is not None and not (objects and fine is None):
                        sums.append(number + prices[0][first] + (fine if objects else 0))
                self.assertEqual(found.cost, least(sums))

    def test_wished_exactly_if_there_are_labels_without_a_fine(self):
        for machine, ring, prices in small_questions(73, [1, 2, 3, 4, 5] * 6, 6, 3):
            self.assertIs(best_ring(machine, ring, prices, None).kind == "best", ring_wishes(machine, ring))

    def test_a_ring_that_is_turned(self):
        for machine, ring, prices in small_questions(74, [1, 2, 3, 4, 5, 6, 7, 9] * 3, 6):
            for fine in FINES:
                cost = best_ring(machine, ring, prices, fine).cost
                for by in range(len(ring)):
                    turned = best_ring(machine, ring[by:] + ring[:by], prices[by:] + prices[:by], fine)
                    self.assertEqual(turned.cost, cost)


class ManyPeople(RingCase):
    def test_200_people_and_a_few_more(self):
        for many in [200, 204]:
            prices = [[at % 5, at % 7] for at in range(many)]
            costs = [sum(prices[at][(at + first) % 2] for at in range(many)) for first in range(2)]
            found = best_ring(UNLIKE, [0] * many, prices, None)
            first = costs.index(min(costs))
            self.is_best(found, min(costs), [first, 1 - first] * (many // 2))
            self.assertIs(judge_ring(UNLIKE, [0] * many, prices, None, found), True)
            found.numbers[1][many - 1][0] += 1
            self.assertIs(judge_ring(UNLIKE, [0] * many, prices, None, found), False)
        self.is_none(best_ring(UNLIKE, [0] * 201, [[0, 0]] * 201, None))
        self.is_best(best_ring(UNLIKE, [0] * 201, [[0, 0]] * 201, 2), 2, [0] + [0, 1] * 100)


class Judge(RingCase):
    def changed(self, found, **parts):
        """What is found, with some parts put in place of its own."""
        told = {"kind": found.kind, "cost": found.cost, "labels": found.labels, "numbers": found.numbers,
                "ends": found.ends}
        told.update(copy.deepcopy(parts))
        return Found(**told)

    def refused(self, question, found):
        self.assertIs(judge_ring(*question, found), False, vars(found))

    def questions(self):
        """Questions, each with what is found: of both kinds, with None and without it."""
        for machine, ring, prices in small_questions(80, [1, 2, 3, 4] * 3, 4, 3):
            for fine in [None, 0, 3]:
                question = (machine, ring, prices, fine)
                yield question, best_ring(*question)

    def test_both_kinds_are_asked(self):
        self.assertEqual({found.kind for _, found in self.questions()}, {"best", "none"})

    def test_it_holds(self):
        for question, found in self.questions():
            self.assertIs(judge_ring(*question, found), True)
            self.assertIs(judge_ring(*question, self.changed(found)), True)

    def test_one_number_changed(self):
        for question, found in self.questions():
            for first, at, label in itertools.product(range(3), range(len(question[1])), range(3)):
                number = found.numbers[first][at][label]
                for other in [None, 0, -1, 1000] + ([] if number is None else [number - 1, number + 1]):
                    if other != number:
                        numbers = copy.deepcopy(found.numbers)
                        numbers[first][at][label] = other
                        self.refused(question, self.changed(found, numbers=numbers))

    def test_one_number_left_out_or_doubled(self):
        for question, found in self.questions():
            for first, at, label in itertools.product(range(3), range(len(question[1])), range(3)):
                numbers = copy.deepcopy(found.numbers)
                del numbers[first][at][label]
                self.refused(question, self.changed(found, numbers=numbers))
                numbers = copy.deepcopy(found.numbers)
                numbers[first][at].insert(label, numbers[first][at][label])
                self.refused(question, self.changed(found, numbers=numbers))

    def test_one_row_left_out_or_doubled(self):
        for question, found in self.questions():
            for first, at in itertools.product(range(3), range(len(question[1]))):
                numbers = copy.deepcopy(found.numbers)
                del numbers[first][at]
                self.refused(question, self.changed(found, numbers=numbers))
                numbers = copy.deepcopy(found.numbers)
                numbers[first].insert(at, list(numbers[first][at]))
                self.refused(question, self.changed(found, numbers=numbers))

    def test_a_list_for_a_label_of_the_first_person_left_out_doubled_or_changed(self):
        for question, found in self.questions():
            numbers = found.numbers
            for first in range(3):
                self.refused(question, self.changed(found, numbers=numbers[:first] + numbers[first + 1:]))
                self.refused(question, self.changed(found, numbers=numbers[:first + 1] + numbers[first:]))
                self.refused(question, self.changed(found, numbers=numbers[:first] + [[]] + numbers[first + 1:]))
                other = numbers[(first + 1) % 3]
                self.refused(question, self.changed(found, numbers=numbers[:first] + [other] + numbers[first + 1:]))
            self.refused(question, self.changed(found, numbers=[]))
            self.refused(question, self.changed(found, numbers=numbers[::-1]))

    def test_ends_that_are_not_empty(self):
        for question, found in self.questions():
            for ends in [[None], [0], [None] * 3, [found.cost] * 3, found.numbers[0][-1]]:
                self.refused(question, self.changed(found, ends=ends))

    def test_a_cost_changed(self):
        for question, found in self.questions():
            for cost in [None, 0, -1, 1000] + ([] if found.cost is None else [found.cost - 1, found.cost + 1]):
                if cost != found.cost:
                    self.refused(question, self.changed(found, cost=cost))

    def test_a_kind_changed(self):
        for question, found in self.questions():
            for kind in ["best", "none", "", "None"]:
                if kind != found.kind:
                    self.refused(question, self.changed(found, kind=kind))

    def test_all_labels(self):
        seen = []
        for question, found in self.questions():
            machine, ring, prices, fine = question
            for labels in lists_of(machine, len(ring)):
                cost = cost_with(prices, fine, labels, len(ring_against(machine, ring, labels)))
                right = found.kind == "best" and cost == found.cost
                told = self.changed(found, labels=labels)
                self.assertIs(judge_ring(*question, told), right)
                seen.append((right, labels == found.labels))
                if not right:
                    self.refused(question, self.changed(told, cost=cost))
                    self.refused(question, self.changed(told, cost=cost, kind="best"))
        self.assertEqual(set(seen), {(True, True), (True, False), (False, False)})

    def test_labels_too_few_too_many_or_beyond_those_of_the_machine(self):
        for question, found in self.questions():
            labels = found.labels
            wrong = [labels + [0], [0] + labels]
            for at in range(len(labels)):
                wrong.append(labels[:at] + labels[at + 1:])
                wrong.append(labels[:at + 1] + labels[at:])
                for label in [-3, -2, -1, 3, 4, 100]:
                    wrong.append(labels[:at] + [label] + labels[at + 1:])
            for told in wrong:
                self.refused(question, self.changed(found, labels=told))
        question = (Machine(1, 1, [], []), [0], [[5]], 2)
        found = best_ring(*question)
        self.is_best(found, 7, [0])
        self.refused(question, self.changed(found, labels=[-1]))

    def test_none_where_a_cost_follows_and_with_a_cost_or_labels(self):
        for question, found in self.questions():
            zeros = [0] * len(question[1])
            if found.kind == "best":
                self.refused(question, self.changed(found, kind="none", cost=None, labels=[]))
                self.refused(question, self.changed(found, kind="none", cost=None))
                self.refused(question, self.changed(found, kind="none", labels=[]))
            else:
                for kind in ["none", "best"]:
                    for cost, labels in [(0, []), (None, zeros), (0, zeros), (None, [0])]:
                        self.refused(question, self.changed(found, kind=kind, cost=cost, labels=labels))
                self.refused(question, self.changed(found, kind="best"))

    def test_what_is_found_of_other_prices_or_of_a_row(self):
        question = (UNLIKE, [0, 0], [[1, 2], [3, 4]], 5)
        self.assertIs(judge_ring(*question, best_ring(*question)), True)
        self.refused(question, best_ring(UNLIKE, [0, 0], [[1, 2], [3, 5]], 5))
        self.refused(question, best_ring(UNLIKE, [0, 0], [[1, 2], [3, 4]], 1))
        self.refused(question, best_ring(UNLIKE, [0, 0], [[1, 2], [3, 4]], None))
        told = best(UNLIKE, row_tree([0, 0]), [[1, 2], [3, 4]], 5)
        self.refused(question, told)
        self.refused(question, self.changed(told, ends=[]))


class Arguments(RingCase):
    def questions(self):
        """Two questions that differ in machine, ring, prices and fine."""
        for fine, (machine, ring, prices) in zip([None, 2], small_questions(90, [4, 4], 4, 7)):
            yield machine, ring, prices, fine

    def test_they_differ_and_have_labels(self):
        one, other = list(self.questions())
        for mine, its in zip(one, other):
            self.assertNotEqual(mine, its)
        self.assertEqual(best_ring(*one).kind, "best")

    def test_they_stay_as_they_were(self):
        for question in self.questions():
            told = (question, best_ring(*question))
            before = copy.deepcopy(told)
            best_ring(*question)
            judge_ring(*question, told[1])
            self.assertEqual(told, before)

    def test_lists_and_tuples_are_taken_alike(self):
        for machine, ring, prices, fine in self.questions():
            found = best_ring(machine, ring, prices, fine)
            same = Found(found.kind, found.cost, *as_tuples([found.labels, found.numbers, found.ends]))
            self.assertEqual(same, found)
            for row in [ring, as_tuples(ring)]:
                for asked in [prices, as_tuples(prices)]:
                    self.assertEqual(best_ring(machine, row, asked, fine), found)
                    for told in [found, same]:
                        self.assertIs(judge_ring(machine, row, asked, fine, told), True)

    def test_parts_of_what_is_found_are_lists(self):
        for machine, ring, prices, fine in self.questions():
            found = best_ring(machine, as_tuples(ring), as_tuples(prices), fine)
            rows = [row for run in found.numbers for row in run]
            for part in [found.labels, found.numbers, found.ends, *found.numbers, *rows]:
                self.assertIsInstance(part, list)

    def test_an_answer_may_be_changed(self):
        for question in self.questions():
            first = best_ring(*question)
            kept = copy.deepcopy(first)
            first.labels.append(9)
            first.ends.append(1)
            for run in first.numbers:
                for row in run:
                    row[0] = 99
                run.pop()
            first.numbers.pop()
            first.cost = -1
            self.assertEqual(best_ring(*question), kept)

    def test_asked_in_turn(self):
        one, other = list(self.questions())
        alone = [best_ring(*one), best_ring(*other)]
        for _ in range(2):
            self.assertEqual([best_ring(*one), best_ring(*other)], alone)
        mixed = list(itertools.product(*zip(one, other)))
        first = [best_ring(*question) for question in mixed]
        self.assertEqual([best_ring(*question) for question in mixed], first)
        for question in mixed[::-1]:
            self.as_by_all(*question)


if __name__ == "__main__":
    unittest.main()
