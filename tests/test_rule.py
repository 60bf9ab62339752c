"""Rules that see both sides: points [12] and [13], and [1] and [2] for these."""

import copy
import itertools
import unittest

from reference import Dice, any_machine, as_lists, as_tuples, rows_up_to, set_at, wished
from someobjects.errors import BadRule, TooLarge
from someobjects.machine import Machine
from someobjects.rule import Rule, machine_of_rule, rule_objectors, rule_of_machine, rule_wishes
from someobjects.trees import row_tree

# Letter 0 keeps its own label; neighbours have unlike labels.
UNLIKE = Rule(1, 2, [(None, 0, 0, None), (None, 0, 1, None), (None, 0, 0, 1), (None, 0, 1, 0), (0, 0, 1, 0),
                     (1, 0, 0, 1), (0, 0, 1, None), (1, 0, 0, None)])


def every_let(letters, labels):
    """All that a rule may let, in the order in which it is kept."""
    sides = [None, *range(labels)]
    return [(before, letter, label, behind) for before in sides for letter in range(letters)
            for label in range(labels) for behind in sides]


def any_rule(dice, letters, labels, of_ten):
    return Rule(letters, labels, [let for let in every_let(letters, labels) if dice.below(10) < of_ten])


def against_rule(rule, row, labels):
    """The people of a row that object, by point [12]."""
    told = []
    for at in range(len(row)):
        before = None if at == 0 else labels[at - 1]
        behind = None if at == len(row) - 1 else labels[at + 1]
        if (before, row[at], labels[at], behind) not in rule.lets:
            told.append(at)
    return told


def wished_by_all(rule, row):
    """Whether a rule wishes a row, by going through all lists of labels."""
    return any(not against_rule(rule, row, labels) for labels in itertools.product(range(rule.labels), repeat=len(row)))


class RuleCase(unittest.TestCase):
    def wrong(self, what, *parts):
        with self.assertRaises(BadRule) as caught:
            Rule(*parts)
        self.assertEqual(caught.exception.what, what, parts)

    def too_large(self, what, asked, *parts):
        with self.assertRaises(TooLarge) as caught:
            asked(*parts)
        self.assertEqual(caught.exception.what, what)


class Numbers(RuleCase):
    def test_letters_from_1_to_3(self):
        for letters in [1, 2, 3]:
            self.assertEqual(Rule(letters, 1, []).letters, letters)
        for letters in [-3, -1, 0, 4, 5, 100]:
            self.wrong("letters", letters, 1, [])

    def test_labels_from_1_to_4(self):
        for labels in [1, 2, 3, 4]:
            self.assertEqual(Rule(1, labels, []).labels, labels)
        for labels in [-4, -1, 0, 5, 6, 8, 100]:
            self.wrong("labels", 1, labels, [])


class Lets(RuleCase):
    def test_letters(self):
        for letters in [1, 2, 3]:
            for letter in range(letters):
                self.assertEqual(Rule(letters, 1, [(0, letter, 0, 0)]).lets, ((0, letter, 0, 0),))
            for letter in [-letters, -1, letters, letters + 1, None]:
                self.wrong("lets", letters, 1, [(0, letter, 0, 0)])

    def test_labels_before_and_behind(self):
        for labels in [1, 2, 3, 4]:
            for label in [0, labels - 1]:
                for let in [(label, 0, 0, 0), (0, 0, label, 0), (0, 0, 0, label), (None, 0, label, None),
                            (label, 0, 0, None), (None, 0, 0, label)]:
                    self.assertEqual(Rule(1, labels, [let]).lets, (let,))
            for label in [-labels, -2, -1, labels, labels + 1]:
                for let in [(label, 0, 0, 0), (0, 0, label, 0), (0, 0, 0, label), (None, 0, label, None),
                            (label, 0, 0, None), (None, 0, 0, label)]:
                    self.wrong("lets", 1, labels, [let])

    def test_none_where_it_may_stand_and_where_not(self):
        for let in [(None, 0, 0, 0), (0, 0, 0, None), (None, 0, 0, None)]:
            self.assertEqual(Rule(2, 2, [let]).lets, (let,))
        for let in [(0, None, 0, 0), (0, 0, None, 0), (None, None, 0, None), (None, 0, None, None), (None,) * 4]:
            self.wrong("lets", 2, 2, [let])

    def test_one_wrong_let_among_others(self):
        right = [(None, 0, 0, 1), (0, 1, 1, 2), (1, 0, 2, None)]
        for wrong in [(0, 2, 0, 0), (3, 0, 0, 0), (0, 0, 3, 0), (0, 0, 0, 3), (-1, 0, 0, 0), (0, 0, 0, -1),
                      (0, None, 0, 0), (0, 0, None, 0)]:
            for place in range(len(right) + 1):
                self.wrong("lets", 2, 3, right[:place] + [wrong] + right[place:])


class SeveralWrong(RuleCase):
    def test_the_first_one_is_told(self):
        lets = [(None, 3, 0, None)]
        self.wrong("letters", 0, 0, lets)
        self.wrong("letters", 4, 5, lets)
        self.wrong("letters", 4, 5, [])
        self.wrong("letters", 4, 1, lets)
        self.wrong("letters", -1, 4, lets)
        self.wrong("labels", 3, 0, lets)
        self.wrong("labels", 1, 5, lets)
        self.wrong("lets", 3, 4, lets)


class Fields(RuleCase):
    def test_ordinary_fields(self):
        rule = Rule(2, 3, [(1, 0, 2, None), (None, 1, 0, 2)])
        self.assertEqual((rule.letters, rule.labels), (2, 3))
        self.assertEqual(rule.lets, ((None, 1, 0, 2), (1, 0, 2, None)))
        self.assertIsInstance(rule.lets, tuple)
        for let in rule.lets:
            self.assertIsInstance(let, tuple)

    def test_nothing_let(self):
        for nothing in [[], ()]:
            rule = Rule(3, 4, nothing)
            self.assertEqual((rule.letters, rule.labels, rule.lets), (3, 4, ()))

    def test_each_once_and_in_order_with_none_ahead_of_0(self):
        kept = ((None, 0, 0, None), (None, 0, 0, 0), (None, 0, 1, None), (None, 1, 0, 1), (0, 0, 0, None),
                (0, 0, 0, 0), (0, 0, 0, 1), (0, 1, 0, None), (1, 0, 0, 0), (1, 0, 1, None))
        lets = list(kept)
        for turned in [lets, lets[::-1], lets[4:] + lets[:4], lets + lets[::-1], lets[1::2] + lets[::2], lets * 3]:
            self.assertEqual(Rule(2, 2, turned).lets, kept)

    def test_all_that_may_be_let(self):
        for letters, labels in [(1, 1), (3, 4), (2, 3)]:
            lets = every_let(letters, labels)
            self.assertEqual(Rule(letters, labels, lets[::-1] + lets).lets, tuple(lets))


class Equality(RuleCase):
    def test_equal_exactly_if_the_fields_are(self):
        parts = [(1, 2, [(None, 0, 0, None)]), (2, 2, [(None, 0, 0, None)]), (1, 3, [(None, 0, 0, None)]),
                 (1, 2, [(None, 0, 0, 0)]), (1, 2, [(0, 0, 0, None)]), (1, 2, [(None, 0, 1, None)]), (1, 2, []),
                 (1, 2, [(None, 0, 0, None), (0, 0, 0, 0)])]
        for at, one in enumerate(parts):
            for where, other in enumerate(parts):
                self.assertIs(Rule(*one) == Rule(*other), at == where)
                self.assertIs(Rule(*one) != Rule(*other), at != where)

    def test_order_and_repetition_make_no_difference(self):
        lets = every_let(2, 2)
        self.assertEqual(Rule(2, 2, lets), Rule(2, 2, lets[::-1] + lets[:5]))

    def test_nothing_else_is_equal_to_a_rule(self):
        rule = Rule(1, 1, [])
        for thing in [None, 1, (1, 1, ()), [1, 1, ()], Machine(1, 1, [], [])]:
            self.assertFalse(rule == thing)
            self.assertTrue(rule != thing)


class Objectors(RuleCase):
    def test_a_row_of_one_person(self):
        rule = Rule(2, 2, [(None, 0, 0, None), (None, 1, 1, 0), (0, 1, 1, None), (0, 1, 1, 0)])
        self.assertEqual(rule_objectors(rule, [0], [0]), [])
        self.assertEqual(rule_objectors(rule, [0], [1]), [0])
        self.assertEqual(rule_objectors(rule, [1], [0]), [0])
        self.assertEqual(rule_objectors(rule, [1], [1]), [0])

    def test_a_row_of_two(self):
        rule = Rule(2, 3, [(None, 0, 1, 2), (1, 1, 2, None), (None, 1, 2, 1)])
        self.assertEqual(rule_objectors(rule, [0, 1], [1, 2]), [])
        self.assertEqual(rule_objectors(rule, [1, 0], [2, 1]), [1])
        self.assertEqual(rule_objectors(rule, [0, 1], [2, 1]), [0, 1])
        self.assertEqual(rule_objectors(rule, [0, 0], [1, 2]), [1])

    def test_a_row_of_several(self):
        rule = Rule(1, 3, [(None, 0, 0, 1), (0, 0, 1, 2), (1, 0, 2, None)])
        self.assertEqual(rule_objectors(rule, [0, 0, 0], [0, 1, 2]), [])
        self.assertEqual(rule_objectors(rule, [0, 0, 0], [0, 1, 1]), [1, 2])
        self.assertEqual(rule_objectors(rule, [0, 0, 0], [2, 1, 2]), [0, 1])
        self.assertEqual(rule_objectors(rule, [0, 0, 0], [0, 0, 2]), [0, 1, 2])
        self.assertEqual(rule_objectors(rule, [0, 0, 0, 0], [0, 1, 2, 0]), [2, 3])

    def test_the_first_has_nobody_before_and_the_last_nobody_behind(self):
        lets = every_let(1, 1)
        self.assertEqual(lets, [(None, 0, 0, None), (None, 0, 0, 0), (0, 0, 0, None), (0, 0, 0, 0)])
        for left_out, told in zip(lets, [[], [0], [3], [1, 2]]):
            rule = Rule(1, 1, [let for let in lets if let != left_out])
            self.assertEqual(rule_objectors(rule, [0] * 4, [0] * 4), told)
            self.assertEqual(rule_objectors(rule, [0], [0]), [] if told else [0])

    def test_letters_that_the_rule_does_not_have(self):
        rule = Rule(1, 1, every_let(1, 1))
        self.assertEqual(rule_objectors(rule, [1], [0]), [0])
        self.assertEqual(rule_objectors(rule, [0, 3, 0, 1], [0] * 4), [1, 3])

    def test_nothing_let(self):
        self.assertEqual(rule_objectors(Rule(2, 2, []), [0, 1, 0], [0, 1, 1]), [0, 1, 2])

    def test_all_lists_of_small_rows(self):
        dice = Dice(100)
        for many in [1, 1, 2, 2, 3, 3, 4, 5]:
            rule = any_rule(dice, 2, 3, 5)
            row = [dice.below(3) for _ in range(many)]
            for labels in itertools.product(range(3), repeat=many):
                self.assertEqual(rule_objectors(rule, row, list(labels)), against_rule(rule, row, labels))

    def test_200_people_and_a_few_more(self):
        for many in [200, 204]:
            labels = [0, 1] * (many // 2)
            self.assertEqual(rule_objectors(UNLIKE, [0] * many, labels), [])
            labels[77] = 0
            self.assertEqual(rule_objectors(UNLIKE, [0] * many, labels), [76, 77, 78])


class Wishes(RuleCase):
    def test_a_rule_that_looks_at_both_sides(self):
        # The label 1 stands between two 0, and each letter 1 has the label 1.
        rule = Rule(2, 2, [(None, 1, 1, 0), (0, 1, 1, 0), (0, 1, 1, None), (None, 1, 1, None),
                           *[(before, 0, 0, behind) for before in [None, 0, 1] for behind in [None, 0, 1]]])
        for row in rows_up_to(2, 6):
            self.assertIs(rule_wishes(rule, row), (1, 1) not in list(zip(row, row[1:])), row)

    def test_one_person(self):
        self.assertIs(rule_wishes(Rule(2, 2, [(None, 0, 1, None)]), [0]), True)
        self.assertIs(rule_wishes(Rule(2, 2, [(None, 0, 1, None)]), [1]), False)
        for let in [(None, 0, 1, 0), (0, 0, 1, None), (0, 0, 0, 0)]:
            self.assertIs(rule_wishes(Rule(2, 2, [let]), [0]), False)

    def test_nobody_stands_in_the_middle_with_nobody_beside(self):
        # What is let for the ends is not let for those between, and the other way round.
        rule = Rule(1, 1, [(None, 0, 0, None), (None, 0, 0, 0), (0, 0, 0, None)])
        self.assertEqual([rule_wishes(rule, [0] * many) for many in [1, 2, 3, 4]], [True, True, False, False])
        rule = Rule(1, 1, [(None, 0, 0, None), (0, 0, 0, 0)])
        self.assertEqual([rule_wishes(rule, [0] * many) for many in [1, 2, 3, 4]], [True, False, False, False])
        rule = Rule(1, 2, [(None, 0, 0, 1), (0, 0, 1, None), (None, 0, 1, 0)])
        self.assertEqual([rule_wishes(rule, [0] * many) for many in [1, 2, 3, 4]], [False, True, False, False])

    def test_what_one_sees_behind_is_there(self):
        rule = Rule(1, 2, [(None, 0, 0, 1), (0, 0, 0, None)])
        self.assertIs(rule_wishes(rule, [0, 0]), False)
        rule = Rule(1, 2, [(None, 0, 0, 1), (1, 0, 1, None)])
        self.assertIs(rule_wishes(rule, [0, 0]), False)

    def test_nothing_let(self):
        for row in rows_up_to(2, 3):
            self.assertIs(rule_wishes(Rule(2, 4, []), row), False)

    def test_letters_that_the_rule_does_not_have(self):
        rule = Rule(1, 2, every_let(1, 2))
        self.assertIs(rule_wishes(rule, [0, 0, 0]), True)
        for row in [[1], [1, 0], [0, 1], [0, 7, 0]]:
            self.assertIs(rule_wishes(rule, row), False)

    def test_small_rows_by_all_lists(self):
        dice = Dice(101)
        seen = []
        for labels, of_ten in itertools.product([1, 2, 3, 4], [2, 3, 4, 6]):
            for _ in range(4):
                rule = any_rule(dice, 2, labels, of_ten)
                for row in rows_up_to(2, 4):
                    seen.append(wished_by_all(rule, row))
                    self.assertIs(rule_wishes(rule, row), seen[-1])
        self.assertEqual(set(seen), {True, False})

    def test_200_people_and_a_few_more(self):
        # In turn 0, 1 and 2, from 0 to 2.
        rule = Rule(1, 3, [(None, 0, 0, 1), (0, 0, 1, 2), (1, 0, 2, 0), (2, 0, 0, 1), (1, 0, 2, None)])
        for many in range(198, 205):
            self.assertIs(rule_wishes(rule, [0] * many), many % 3 == 0)


class MachineOfRule(RuleCase):
    def test_labels_in_the_order_of_their_first_places(self):
        rule = Rule(2, 3, [(0, 0, 0, 2), (None, 1, 2, 0), (2, 1, 0, None), (2, 0, 0, 2), (None, 0, 1, None),
                           (1, 1, 2, 0), (0, 0, 2, 0)])
        # Kept in order: (None, 0, 1, None), (None, 1, 2, 0), (0, 0, 0, 2), (0, 0, 2, 0), (1, 1, 2, 0),
        # (2, 0, 0, 2), (2, 1, 0, None). So the pairs are (1, None), (2, 0), (0, 2), (0, None).
        # The one before has to see what stands there: no pair is (0, 0) or (1, 2).
        moves = [(0, [], 0), (1, [], 1), (0, [2], 1), (0, [1], 2), (1, [1], 3)]
        self.assertEqual(machine_of_rule(rule), Machine(2, 4, moves, [0, 3]))

    def test_one_pair(self):
        self.assertEqual(machine_of_rule(Rule(3, 4, [(None, 2, 3, None)])), Machine(3, 1, [(2, [], 0)], [0]))
        self.assertEqual(machine_of_rule(Rule(3, 4, [(1, 2, 3, None)])), Machine(3, 1, [], [0]))
        self.assertEqual(machine_of_rule(Rule(1, 1, [(None, 0, 0, 0), (0, 0, 0, 0)])),
                         Machine(1, 1, [(0, [], 0), (0, [0], 0)], []))

    def test_a_rule_that_lets_nothing(self):
        for letters, labels in [(1, 1), (2, 3), (3, 4)]:
            self.assertEqual(machine_of_rule(Rule(letters, labels, [])), Machine(letters, 1, [], []))

    def test_8_pairs_and_9(self):
        for letters in [1, 3]:
            lets = [(before, 0, label, behind) for label in [0, 1] for behind in range(4) for before in [None, 0, 3]]
            self.assertEqual(machine_of_rule(Rule(letters, 4, lets)).labels, 8)
            for let in [(None, 0, 2, 0), (None, 0, 0, None), (3, 0, 3, 3)]:
                self.too_large("labels", machine_of_rule, Rule(letters, 4, lets + [let]))
        self.too_large("labels", machine_of_rule, Rule(3, 4, every_let(3, 4)))
        self.assertEqual(machine_of_rule(Rule(3, 2, every_let(3, 2))).labels, 6)
        self.too_large("labels", machine_of_rule, Rule(1, 3, every_let(1, 3)))

    def test_each_move_and_end_by_the_point(self):
        dice = Dice(102)
        for labels, of_ten in [(1, 5), (2, 3), (2, 6), (3, 1), (2, 10)] * 5:
            rule = any_rule(dice, 3, labels, of_ten)
            pairs = []
            for _, _, label, behind in rule.lets:
                if (label, behind) not in pairs:
                    pairs.append((label, behind))
            if not 1 <= len(pairs) <= 8:
                continue
            made = machine_of_rule(rule)
            self.assertEqual((made.letters, made.labels), (3, len(pairs)))
            self.assertEqual(made.ends, tuple(at for at, pair in enumerate(pairs) if pair[1] is None))
            moves = {(letter, (), at) for letter in range(3) for at, (label, behind) in enumerate(pairs)
                     if (None, letter, label, behind) in rule.lets}
            moves |= {(letter, (one,), at) for letter in range(3) for at, (label, behind) in enumerate(pairs)
                      for one, (before, seen) in enumerate(pairs)
                      if seen == label and (before, letter, label, behind) in rule.lets}
            self.assertEqual(set(made.moves), moves)

    def test_it_wishes_the_same_rows(self):
        dice = Dice(103)
        seen, refused = [], 0
        for labels, of_ten in [(1, 6), (2, 3), (2, 5), (3, 1), (4, 1), (3, 2)] * 6:
            rule = any_rule(dice, 2, labels, of_ten)
            try:
                made = machine_of_rule(rule)
            except TooLarge:
                refused += 1
                continue
            for row in rows_up_to(3, 4):
                seen.append(wished_by_all(rule, row))
                self.assertIs(wished(made, row_tree(row)), seen[-1])
        self.assertEqual(set(seen), {True, False})
        self.assertTrue(refused)


class RuleOfMachine(RuleCase):
    def test_moves_of_no_child_and_of_one_with_and_without_ends(self):
        machine = Machine(2, 2, [(0, [], 1), (1, [1], 0), (0, [0, 1], 1)], [0])
        lets = [(None, 0, 1, 0), (None, 0, 1, 1), (1, 1, 0, None), (1, 1, 0, 0), (1, 1, 0, 1)]
        self.assertEqual(rule_of_machine(machine), Rule(2, 2, lets))
        machine = Machine(2, 2, [(0, [], 1), (1, [1], 0)], [])
        self.assertEqual(rule_of_machine(machine), Rule(2, 2, [let for let in lets if let[3] is not None]))
        machine = Machine(2, 2, [(0, [], 1), (1, [1], 0)], [0, 1])
        self.assertEqual(rule_of_machine(machine), Rule(2, 2, lets + [(None, 0, 1, None)]))

    def test_a_machine_without_moves(self):
        self.assertEqual(rule_of_machine(Machine(3, 4, [], [0, 3])), Rule(3, 4, []))
        self.assertEqual(rule_of_machine(Machine(1, 2, [(0, [0, 1], 1)], [0, 1])), Rule(1, 2, []))

    def test_3_letters_and_4(self):
        self.assertEqual(rule_of_machine(Machine(3, 4, [(2, [], 3)], [3])).letters, 3)
        self.too_large("letters", rule_of_machine, Machine(4, 1, [], []))
        self.too_large("letters", rule_of_machine, Machine(4, 4, [(0, [], 0)], [0]))

    def test_4_labels_and_5(self):
        self.assertEqual(rule_of_machine(Machine(3, 4, [(2, [], 3)], [3])).labels, 4)
        for labels in [5, 6, 7, 8]:
            self.too_large("labels", rule_of_machine, Machine(1, labels, [(0, [], 0)], [0]))
            self.too_large("labels", rule_of_machine, Machine(3, labels, [], []))

    def test_letters_are_asked_first(self):
        for labels in [5, 8]:
            self.too_large("letters", rule_of_machine, Machine(4, labels, [], []))

    def test_it_wishes_the_same_rows_of_its_letters(self):
        dice = Dice(104)
        seen = []
        for labels, of_ten in [(1, 6), (2, 3), (2, 5), (3, 2), (4, 2), (4, 3)] * 4:
            machine = any_machine(dice, 2, labels, of_ten)
            rule = rule_of_machine(machine)
            self.assertEqual((rule.letters, rule.labels), (2, labels))
            for row in rows_up_to(2, 4):
                seen.append(wished(machine, row_tree(row)))
                self.assertIs(wished_by_all(rule, row), seen[-1])
        self.assertEqual(set(seen), {True, False})

    def test_there_and_back(self):
        machine = Machine(2, 2, [(0, [], 0), (1, [], 1), (0, [0], 0), (0, [1], 1), (1, [0], 1), (1, [1], 0)], [0])
        again = machine_of_rule(rule_of_machine(machine))
        self.assertEqual(again.labels, 5)
        for row in rows_up_to(2, 6):
            self.assertIs(wished(again, row_tree(row)), wished(machine, row_tree(row)))
            self.assertEqual(len(set_at(machine, row_tree(row))), 1)


class Arguments(RuleCase):
    def test_lists_and_tuples_are_taken_alike(self):
        lets = [(None, 0, 1, 0), (1, 1, 0, None), (1, 1, 0, None)]
        rules = [Rule(2, 2, told) for told in [lets, tuple(lets), as_lists(lets), as_tuples(lets)]]
        for rule in rules:
            self.assertEqual(rule, rules[0])
            self.assertEqual(rule.lets, ((None, 0, 1, 0), (1, 1, 0, None)))
            self.assertEqual(machine_of_rule(rule), machine_of_rule(rules[0]))
        for row, labels in [([0, 1], [1, 0]), ([0, 1, 1], [1, 0, 0]), ([0], [1])]:
            self.assertEqual(rule_objectors(rules[0], tuple(row), tuple(labels)),
                             rule_objectors(rules[0], row, labels))
            self.assertIs(rule_wishes(rules[0], tuple(row)), rule_wishes(rules[0], row))

    def test_a_rule_does_not_change_with_the_list(self):
        let = [None, 0, 1, 0]
        lets = [let, (1, 0, 0, None)]
        rule = Rule(1, 2, lets)
        let[0] = 1
        lets.append((0, 0, 0, 0))
        lets[1] = (None, 0, 0, None)
        self.assertEqual(rule, Rule(1, 2, [(None, 0, 1, 0), (1, 0, 0, None)]))

    def test_arguments_stay_as_they_were(self):
        lets = [[1, 0, 0, None], [None, 0, 1, 0], [1, 0, 0, None]]
        machine = Machine(1, 2, [(0, [], 1), (0, [1], 0)], [0])
        row, labels = [0, 0], [1, 0]
        rule = Rule(1, 2, lets)
        told = (lets, rule, machine, row, labels)
        before = copy.deepcopy(told)
        Rule(1, 2, lets)
        rule_objectors(rule, row, labels)
        rule_wishes(rule, row)
        machine_of_rule(rule)
        rule_of_machine(machine)
        self.wrong("lets", 1, 1, lets)
        self.assertEqual(told, before)

    def test_an_answer_may_be_changed(self):
        for _ in range(2):
            told = rule_objectors(Rule(1, 1, []), [0, 0], [0, 0])
            self.assertEqual(told, [0, 1])
            told.append(5)
            made = machine_of_rule(Rule(1, 1, [(None, 0, 0, None)]))
            self.assertEqual(made, Machine(1, 1, [(0, [], 0)], [0]))
            made.moves, made.ends = (), ()
            rule = rule_of_machine(Machine(1, 1, [(0, [], 0)], []))
            self.assertEqual(rule, Rule(1, 1, [(None, 0, 0, 0)]))
            rule.lets = ()

    def test_asked_in_turn(self):
        dice = Dice(105)
        rules = [any_rule(dice, 2, 2, of_ten) for of_ten in [2, 4, 6]]
        rows = rows_up_to(2, 3)
        alone = [[rule_wishes(rule, row) for row in rows] for rule in rules]
        for _ in range(2):
            for at, row in enumerate(rows):
                for rule, told in zip(rules, alone):
                    self.assertIs(rule_wishes(rule, row), told[at])
                    self.assertIs(rule_wishes(rule, row), wished_by_all(rule, row))


if __name__ == "__main__":
    unittest.main()
