"""Wishes put together and told apart: points [14] and [15], and [1] and [2] for these."""

import copy
import itertools
import unittest

from reference import (Dice, any_machine, least_unlike, pairs_of_sets, renamed, set_at, size, sparse_machine, trees_of,
                       trees_up_to, wished)
from someobjects.errors import BadMachine, TooLarge
from someobjects.join import both, difference, either, other
from someobjects.machine import Machine
from someobjects.seen import wishes
from someobjects.trees import people, row_tree

LEAF = (0, ())
# An even number of the letter 1 in a row.
EVEN = Machine(2, 2, [(0, [], 0), (1, [], 1), (0, [0], 0), (0, [1], 1), (1, [0], 1), (1, [1], 0)], [0])
# The root of the tree has the letter 1.
ROOT = Machine(2, 2, [(letter, children, letter) for letter in range(2) for many in range(3)
                      for children in itertools.product(range(2), repeat=many)], [1])
SMALL = trees_up_to(2, 5)


def cycle(labels, ends, starts=(0,)):
    """A machine for rows in which the label goes around with each person."""
    return Machine(1, labels, [(0, [], start) for start in starts]
                   + [(0, [label], (label + 1) % labels) for label in range(labels)], ends)


def least_difference(one, another, most):
    """The least number of people of a tree that just one of two machines wishes, if not above so many."""
    for many in range(1, most + 1):
        if any(wished(one, tree) != wished(another, tree) for tree in trees_of(one.letters, many)):
            return many
    return None


class JoinCase(unittest.TestCase):
    def refused(self, kind, what, asked, *parts):
        with self.assertRaises(kind) as caught:
            asked(*parts)
        self.assertEqual(caught.exception.what, what)


class Both(JoinCase):
    def test_labels_are_pairs_the_first_ones_before(self):
        one = Machine(2, 2, [(0, [], 1), (1, [0], 1), (1, [1, 0], 0), (0, [1], 0)], [1])
        two = Machine(2, 3, [(0, [], 2), (0, [], 0), (1, [2], 1), (1, [1, 2], 0), (1, [0, 0], 2)], [0, 2])
        # The pair of labels a and b is the label 3 a + b.
        moves = [(0, [], 5), (0, [], 3), (1, [2], 4), (1, [4, 2], 0), (1, [3, 0], 2)]
        self.assertEqual(both(one, two), Machine(2, 6, moves, [3, 5]))
        # The pair of labels b and a is the label 2 b + a.
        moves = [(0, [], 5), (0, [], 1), (1, [4], 3), (1, [3, 4], 0), (1, [1, 0], 4)]
        self.assertEqual(both(two, one), Machine(2, 6, moves, [1, 5]))

    def test_pairs_that_no_tree_has_are_labels_too(self):
        self.assertEqual(both(Machine(3, 2, [], [0]), Machine(3, 4, [], [1, 3])), Machine(3, 8, [], [1, 3]))

    def test_without_moves_or_ends(self):
        full = Machine(1, 2, [(0, [], 0), (0, [0], 1)], [0, 1])
        self.assertEqual(both(full, Machine(1, 2, [], [1])), Machine(1, 4, [], [1, 3]))
        self.assertEqual(both(full, Machine(1, 1, [(0, [], 0)], [])), Machine(1, 2, [(0, [], 0)], []))

    def test_it_wishes_what_both_wish(self):
        dice = Dice(200)
        seen = []
        for labels, others in [(1, 1), (1, 3), (2, 2), (2, 3), (3, 2), (2, 4), (4, 2), (8, 1), (1, 8)] * 2:
            one, two = any_machine(dice, 2, labels, 3), any_machine(dice, 2, others, 3)
            made = both(one, two)
            for tree in SMALL:
                told = (wished(one, tree), wished(two, tree))
                seen.append(told)
                self.assertIs(wished(made, tree), told[0] and told[1])
        self.assertEqual(len(set(seen)), 4)


class Either(JoinCase):
    def test_labels_of_the_second_one_stand_behind(self):
        one = Machine(2, 2, [(0, [], 1), (1, [0], 1), (1, [1, 0], 0)], [1])
        two = Machine(2, 3, [(0, [], 2), (1, [2], 1), (1, [1, 2], 0)], [0, 2])
        moves = [(0, [], 1), (1, [0], 1), (1, [1, 0], 0), (0, [], 4), (1, [4], 3), (1, [3, 4], 2)]
        self.assertEqual(either(one, two), Machine(2, 5, moves, [1, 2, 4]))
        moves = [(0, [], 2), (1, [2], 1), (1, [1, 2], 0), (0, [], 4), (1, [3], 4), (1, [4, 3], 3)]
        self.assertEqual(either(two, one), Machine(2, 5, moves, [0, 2, 4]))

    def test_without_moves_or_ends(self):
        full = Machine(1, 2, [(0, [], 0), (0, [0], 1)], [0, 1])
        self.assertEqual(either(full, Machine(1, 2, [], [1])), Machine(1, 4, full.moves, [0, 1, 3]))
        self.assertEqual(either(Machine(1, 1, [(0, [], 0)], []), full),
                         Machine(1, 3, [(0, [], 0), (0, [], 1), (0, [1], 2)], [1, 2]))

    def test_it_wishes_what_one_of_them_wishes(self):
        dice = Dice(201)
        seen = []
        for labels, others in [(1, 1), (1, 3), (2, 2), (2, 3), (3, 2), (4, 4), (7, 1), (1, 7)] * 2:
            one, two = any_machine(dice, 2, labels, 2), any_machine(dice, 2, others, 2)
            made = either(one, two)
            for tree in SMALL:
                told = (wished(one, tree), wished(two, tree))
                seen.append(told)
                self.assertIs(wished(made, tree), told[0] or told[1])
        self.assertEqual(len(set(seen)), 4)


class Other(JoinCase):
    def test_sets_of_labels_in_the_order_of_lists(self):
        # The sets of trees: a leaf has 0 and 2; above it there is 1, then 0 1, then 1, and with two children nothing.
        machine = Machine(1, 3, [(0, [], 0), (0, [], 2), (0, [2], 1), (0, [1], 0), (0, [1], 1), (0, [0], 1)], [0])
        # As lists: [], [0, 1], [0, 2], [1]; as numbers the last two ones would be exchanged.
        moves = [(0, [], 2), (0, [0], 0), (0, [1], 1), (0, [2], 3), (0, [3], 1)]
        moves += [(0, [first, second], 0) for first in range(4) for second in range(4)]
        self.assertEqual(other(machine), Machine(1, 4, moves, [0, 3]))

    def test_several_letters(self):
        # Each letter has its own label, and a letter without a move has none.
        machine = Machine(3, 2, [(letter, children, letter) for letter in range(2) for many in range(3)
                                 for children in itertools.product(range(2), repeat=many)], [1])
        sets = [[], [0], [1]]
        belows = [(), *itertools.product(range(3)), *itertools.product(range(3), range(3))]
        moves = [(letter, below, 0 if 0 in below or letter == 2 else letter + 1)
                 for letter in range(3) for below in belows]
        self.assertEqual(other(machine), Machine(3, len(sets), moves, [0, 1]))

    def test_the_order_of_all_sets(self):
        dice = Dice(202)
        checked = set()
        for labels, many in itertools.product([2, 3, 4, 5], range(2, 14)):
            machine = sparse_machine(dice, 2, labels, many)
            sets = sorted({tuple(sorted(set_at(machine, tree))) for tree in SMALL})
            if len(sets) <= 8:
                made = other(machine)
                if made.labels == len(sets):
                    checked.add(len(sets))
                    self.assertEqual(made.ends, tuple(at for at, told in enumerate(sets)
                                                      if not set(told) & set(machine.ends)))
                    for tree in trees_up_to(2, 4):
                        told = tuple(sorted(set_at(machine, tree)))
                        self.assertEqual(set_at(made, tree), {sets.index(told)})
        self.assertTrue({3, 4, 5, 6} <= checked)

    def test_no_set_but_the_empty_one(self):
        for letters in [1, 2, 4]:
            moves = [(letter, children, 0) for letter in range(letters) for children in [[], [0], [0, 0]]]
            self.assertEqual(other(Machine(letters, 3, [], [0, 1])), Machine(letters, 1, moves, [0]))
            self.assertEqual(other(Machine(letters, 8, [(0, [1], 1), (0, [2, 3], 4)], [1])),
                             Machine(letters, 1, moves, [0]))

    def test_one_set_of_all(self):
        moves = [(0, children, 0) for children in [[], [0], [0, 0]]]
        self.assertEqual(other(Machine(1, 1, moves, [0])), Machine(1, 1, moves, []))
        self.assertEqual(other(Machine(1, 1, moves, [])), Machine(1, 1, moves, [0]))

    def test_8_sets_and_9(self):
        # In rows there are as many sets as labels; with two children there is the empty one, too.
        self.assertEqual(other(cycle(7, [3])).labels, 8)
        self.refused(TooLarge, "labels", other, cycle(8, [3]))
        # With moves for two children the empty one is missing.
        beside = [(0, [label, second], label) for label in range(8) for second in range(8)]
        made = other(Machine(1, 8, list(cycle(8, [3]).moves) + beside, [3]))
        self.assertEqual((made.labels, made.ends), (8, (0, 1, 2, 4, 5, 6, 7)))
        # Two cycles at once, of which a leaf has both beginnings: 2 * 5 sets, and the empty one.
        two = Machine(1, 7, [(0, [], 0), (0, [], 2), (0, [0], 1), (0, [1], 0)]
                      + [(0, [2 + at], 2 + (at + 1) % 5) for at in range(5)], [0])
        self.refused(TooLarge, "labels", other, two)

    def test_many_sets(self):
        dice = Dice(203)
        refused = 0
        for _ in range(20):
            machine = sparse_machine(dice, 4, 8, 60)
            sets = {tuple(sorted(set_at(machine, tree))) for tree in trees_up_to(4, 3)}
            if len(sets) > 8:
                refused += 1
                self.refused(TooLarge, "labels", other, machine)
        self.assertTrue(refused)

    def test_it_wishes_what_is_not_wished(self):
        dice = Dice(204)
        seen = []
        for labels, of_ten in itertools.product([1, 2, 3], [1, 2, 3, 5, 8]):
            machine = any_machine(dice, 2, labels, of_ten)
            try:
                made = other(machine)
            except TooLarge:
                continue
            for tree in SMALL:
                seen.append(wished(machine, tree))
                self.assertIs(wished(made, tree), not seen[-1])
            self.assertEqual(made.letters, 2)
            # Twice is what it was.
            self.assertIsNone(difference(other(made), machine))
        self.assertEqual(set(seen), {True, False})

    def test_letters_that_the_machine_does_not_have(self):
        for tree in [(1, ()), row_tree([0, 1]), (0, (LEAF, (1, ())))]:
            self.assertIs(wishes(Machine(1, 1, [], []), tree), False)
            self.assertIs(wishes(other(Machine(1, 1, [], [])), tree), False)


class Refused(JoinCase):
    def test_unlike_numbers_of_letters(self):
        for asked in [both, either]:
            for letters, others in itertools.permutations(range(1, 5), 2):
                self.refused(BadMachine, "letters", asked, Machine(letters, 1, [], []), Machine(others, 1, [], []))
                # Also where the labels are too many.
                self.refused(BadMachine, "letters", asked, Machine(letters, 8, [], []), Machine(others, 8, [], []))
            for letters in range(1, 5):
                self.assertEqual(asked(Machine(letters, 1, [], []), Machine(letters, 1, [], [])).letters, letters)

    def test_8_labels_and_9_for_both(self):
        for labels, others in itertools.product(range(1, 9), repeat=2):
            one, two = Machine(2, labels, [], []), Machine(2, others, [], [])
            if labels * others <= 8:
                self.assertEqual(both(one, two), Machine(2, labels * others, [], []))
            else:
                self.refused(TooLarge, "labels", both, one, two)

    def test_8_labels_and_9_for_either(self):
        for labels, others in itertools.product(range(1, 9), repeat=2):
            one, two = Machine(2, labels, [], []), Machine(2, others, [], [])
            if labels + others <= 8:
                self.assertEqual(either(one, two), Machine(2, labels + others, [], []))
            else:
                self.refused(TooLarge, "labels", either, one, two)


class Difference(JoinCase):
    def told_apart(self, one, another, many):
        """That there is a difference, and that it has so many people."""
        tree = difference(one, another)
        self.assertIsNotNone(tree)
        self.assertEqual(size(tree), many)
        self.assertNotEqual(wishes(one, tree), wishes(another, tree))
        return tree

    def test_the_same_machine(self):
        dice = Dice(205)
        for machine in [EVEN, ROOT, Machine(4, 8, [], []), any_machine(dice, 2, 2, 4), any_machine(dice, 1, 3, 2)]:
            self.assertIsNone(difference(machine, machine))

    def test_renamed(self):
        dice = Dice(206)
        for many in range(2, 12):
            machine = sparse_machine(dice, 2, 3, many)
            for names in itertools.permutations(range(3)):
                self.assertIsNone(difference(machine, renamed(machine, names)))

    def test_unlike_numbers_of_labels(self):
        useless = Machine(2, 4, [*EVEN.moves, (0, [3], 3), (1, [2], 2), (1, [], 2)], [0, 3])
        self.assertIsNone(difference(EVEN, useless))
        self.assertIsNone(difference(useless, EVEN))
        for empty in [Machine(1, 1, [], []), Machine(1, 8, [], [0]), Machine(1, 2, [(0, [], 0)], [1]),
                      Machine(1, 3, [(0, [1], 1), (0, [1, 2], 0)], [0, 1, 2])]:
            for another in [Machine(1, 1, [], []), Machine(1, 5, [(0, [], 3)], [])]:
                self.assertIsNone(difference(empty, another))
                self.assertIsNone(difference(another, empty))
        # A label for each person counts in two or in four.
        self.assertIsNone(difference(cycle(2, [0]), cycle(4, [0, 2])))
        self.assertIsNone(difference(both(EVEN, ROOT), both(ROOT, EVEN)))
        self.assertIsNone(difference(either(EVEN, ROOT), other(both(other(EVEN), other(ROOT)))))

    def test_one_person(self):
        self.assertEqual(difference(Machine(1, 1, [(0, [], 0)], [0]), Machine(1, 1, [], [])), LEAF)
        self.assertEqual(difference(Machine(1, 1, [], []), Machine(1, 2, [(0, [], 1)], [1])), LEAF)
        self.assertEqual(difference(Machine(4, 1, [(3, [], 0)], [0]), Machine(4, 1, [], [])), (3, ()))

    def test_two_children_in_order(self):
        leaves = [(0, [], 0), (1, [], 1)]
        tree = self.told_apart(Machine(2, 2, [*leaves, (0, [0, 1], 1)], [0, 1]), Machine(2, 2, leaves, [0, 1]), 3)
        self.assertEqual(tree, (0, (LEAF, (1, ()))))
        tree = self.told_apart(Machine(2, 2, leaves, [0, 1]), Machine(2, 2, [*leaves, (1, [1, 0], 1)], [0, 1]), 3)
        self.assertEqual(tree, (1, ((1, ()), LEAF)))

    def test_rows(self):
        self.told_apart(cycle(2, [0]), cycle(4, [0]), 3)
        self.told_apart(cycle(5, [0]), cycle(5, [0, 4]), 5)
        self.told_apart(cycle(8, [7]), Machine(1, 1, [], []), 8)
        self.assertEqual(self.told_apart(cycle(7, [6]), cycle(8, [6]), 14), row_tree([0] * 14))

    def test_the_fewest_people_and_not_the_fewest_generations(self):
        # A leaf with the letter 1 is wished above two generations of two children, or at the end of a row of 6.
        one = Machine(1, 8, [(0, [], 0), (0, [0, 0], 1), (0, [1, 1], 7)] + [(0, [0], 2)]
                      + [(0, [at], at + 1) for at in range(2, 5)] + [(0, [5], 7)], [7])
        self.assertEqual(self.told_apart(one, Machine(1, 1, [], []), 6), row_tree([0] * 6))
        # And above one more at the end of the row the two generations have fewer.
        one = Machine(1, 8, [(0, [], 0), (0, [0, 0], 1), (0, [1, 1], 7), (0, [0], 2), (0, [2], 3), (0, [3], 4),
                             (0, [4], 5), (0, [5], 6), (0, [6, 6], 7)], [7])
        pair = (0, (LEAF, LEAF))
        self.assertEqual(self.told_apart(one, Machine(1, 1, [], []), 7), (0, (pair, pair)))

    def test_a_least_one_against_all_trees(self):
        dice = Dice(207)
        seen = []
        for labels, others in [(1, 1), (1, 2), (2, 2), (2, 3), (3, 3), (3, 1)] * 12:
            one, two = sparse_machine(dice, 2, labels, 6), sparse_machine(dice, 2, others, 6)
            self.checked(one, two, seen)
        # Machines that differ in one move or one end.
        for many in range(6, 30):
            one = sparse_machine(dice, 2, 3, many)
            at = dice.below(len(one.moves))
            self.checked(one, Machine(2, 3, one.moves[:at] + one.moves[at + 1:], one.ends), seen)
            self.checked(Machine(2, 3, one.moves, one.ends[1:]), one, seen)
        self.assertTrue({None, 1, 2, 3, 4} <= set(seen), set(seen))

    def checked(self, one, two, seen):
        tree = difference(one, two)
        seen.append(least_difference(one, two, 5 if tree is None else min(5, size(tree))))
        if tree is None:
            self.assertIsNone(seen[-1])
        else:
            self.assertNotEqual(wished(one, tree), wished(two, tree))
            self.assertEqual(seen[-1], size(tree) if size(tree) <= 5 else None)

    def test_60_pairs_of_sets_and_more(self):
        # A leaf has both 0 and 3, which go around by three and by five; the other machine goes around by four.
        moves = [(0, [], 0), (0, [], 3)]
        moves += [(0, [at], (at + 1) % 3) for at in range(3)] + [(0, [3 + at], 3 + (at + 1) % 5) for at in range(5)]
        one = Machine(1, 8, moves, [2])
        # Rows have 60 pairs of sets; in a tree with two children everybody objects, which makes one pair more.
        self.assertEqual(len(self.pairs_in_rows(one, cycle(4, [2]), 130)), 60)
        self.refused(TooLarge, "sets", difference, one, cycle(4, [2]))
        self.refused(TooLarge, "sets", difference, cycle(4, [2]), one)
        # If two children lead as the first one alone does, there are exactly 60.
        full = [self.with_two_children(machine) for machine in [one, cycle(4, [2])]]
        self.assertEqual(difference(*full), row_tree([0] * 6))
        self.assertIsNone(difference(full[0], self.with_two_children(Machine(1, 8, moves, [2]))))
        # A second letter with which everybody objects makes one pair more, again.
        more = [Machine(2, machine.labels, machine.moves, machine.ends) for machine in full]
        self.refused(TooLarge, "sets", difference, *more)
        # So it is where the machines differ by one person alone, and where they wish the same trees.
        more = [Machine(2, machine.labels, machine.moves, ends) for machine, ends in zip(full, [[0], [1]])]
        self.refused(TooLarge, "sets", difference, *more)
        more = [Machine(2, machine.labels, machine.moves, []) for machine in full]
        self.refused(TooLarge, "sets", difference, *more)

    def pairs_in_rows(self, one, two, most):
        told = set()
        sets = [{label for _, children, label in machine.moves if not children} for machine in [one, two]]
        for _ in range(most):
            told.add(tuple(tuple(sorted(labels)) for labels in sets))
            sets = [{label for _, children, label in machine.moves if len(children) == 1 and children[0] in labels}
                    for machine, labels in zip([one, two], sets)]
        return told

    def with_two_children(self, machine):
        moves = [(letter, (*children, second), label) for letter, children, label in machine.moves
                 if len(children) == 1 for second in range(machine.labels)]
        return Machine(machine.letters, machine.labels, [*machine.moves, *moves], machine.ends)

    def test_57_pairs_of_two_cycles(self):
        # 7 * 8 pairs in rows, and one in all other trees; the cycles differ as late as they can.
        for ends in range(7):
            tree = difference(cycle(7, [ends]), cycle(8, [ends]))
            self.assertEqual(size(tree), 8 + ends)

    def test_more_than_200_people(self):
        doubled = Machine(1, 8, [(0, [], 0)] + [(0, [at, at], at + 1) for at in range(7)], [7])
        tree = self.told_apart(doubled, Machine(1, 1, [], []), 255)
        self.assertEqual(people(tree), 255)
        self.told_apart(Machine(1, 8, doubled.moves, list(range(8))), Machine(1, 8, doubled.moves, list(range(7))), 255)

    def test_a_least_tree_in_which_two_cycles_come_to_their_ends(self):
        # Two children that are alike lead on in a cycle of three and in one of five; unlike ones begin it again.
        moves = [(0, [], 0), (0, [], 3)]
        for start, many in [(0, 3), (3, 5)]:
            for first, second in itertools.product(range(many), repeat=2):
                moves.append((0, [start + first, start + second], start + (first + 1) % many * (first == second)))
        # The machines differ where both cycles are at their ends.
        one, two = (Machine(1, 8, moves, [0, 1, 3, 4, 5, 6, *more]) for more in [[], [2]])
        sizes = pairs_of_sets(one, two, 60)
        self.assertEqual(len(sizes), 16)
        self.told_apart(one, two, least_unlike(one, two, sizes))
        self.told_apart(two, one, least_unlike(one, two, sizes))

    def test_a_least_one_by_all_pairs_of_sets(self):
        seen = []
        for letters, labels, many, seed in itertools.product([1, 2], [4, 6], [12, 16, 22], range(8)):
            dice = Dice(1000 + 100 * seed + 10 * labels + many)
            moves = sparse_machine(dice, letters, labels, many).moves
            at = dice.below(len(moves))
            one = Machine(letters, labels, moves, [labels - 1])
            two = Machine(letters, labels, moves[:at] + moves[at + 1:], [labels - 1])
            sizes = pairs_of_sets(one, two, 60)
            if sizes is None:
                seen.append("sets")
                self.refused(TooLarge, "sets", difference, one, two)
                continue
            seen.append(least_unlike(one, two, sizes))
            if seen[-1] is None:
                self.assertIsNone(difference(one, two))
            else:
                self.told_apart(one, two, seen[-1])
        self.assertTrue({"sets", None, 1, 2, 3, 4, 5, 6, 7} <= set(seen), set(seen))


class Arguments(JoinCase):
    def questions(self):
        dice = Dice(208)
        return [(any_machine(dice, 2, 2, 3), any_machine(dice, 2, 2, 3)),
                (any_machine(dice, 1, 2, 4), any_machine(dice, 1, 2, 4)), (EVEN, ROOT)]

    def answers(self, one, two):
        return [both(one, two), either(one, two), other(one), other(two), difference(one, two)]

    def test_they_stay_as_they_were(self):
        for question in self.questions():
            before = copy.deepcopy(question)
            self.answers(*question)
            self.assertEqual(question, before)

    def test_arguments_have_their_names(self):
        one, two = EVEN, ROOT
        self.assertEqual(both(one=one, other=two), both(one, two))
        self.assertEqual(either(one=one, other=two), either(one, two))
        self.assertEqual(other(machine=one), other(one))
        self.assertEqual(difference(one=one, other=two), difference(one, two))

    def test_an_answer_may_be_changed(self):
        for question in self.questions():
            kept = self.answers(*question)
            for made in self.answers(*question)[:4]:
                made.letters, made.labels, made.moves, made.ends = 1, 1, (), ()
            self.assertEqual(self.answers(*question), kept)

    def test_asked_in_turn(self):
        questions = self.questions()
        alone = [self.answers(*question) for question in questions]
        for _ in range(2):
            self.assertEqual([self.answers(*question) for question in questions], alone)
        self.assertEqual([self.answers(*question) for question in questions[::-1]], alone[::-1])


if __name__ == "__main__":
    unittest.main()
