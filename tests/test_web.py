"""Fewer labels: points [16], [17] and [18], and [1] and [2] for these."""

import copy
import itertools
import unittest

from reference import (Dice, any_machine, any_tree, as_lists, comb, filled_with, is_web, renamed, set_at,
                       sparse_machine, trees_up_to, wished)
from someobjects.join import difference, either
from someobjects.machine import Machine
from someobjects.seen import wishes
from someobjects.trees import filled, people, people_of, read_tree, row_tree
from someobjects.web import trimmed, web_holds, web_of

HOLE = (None, ())
LEAF = (0, ())
ONE = (1, ())
# An even number of the letter 1 in a row.
EVEN = Machine(2, 2, [(0, [], 0), (1, [], 1), (0, [0], 0), (0, [1], 1), (1, [0], 1), (1, [1], 0)], [0])
# No two neighbours in a row have the letter 1.
APART = Machine(2, 2, [(0, [], 0), (1, [], 1), (0, [0], 0), (0, [1], 0), (1, [0], 1)], [0, 1])
# No tree has the label 1; the label 3 stands above 4, and no wished tree has them; 5 stands above 1.
MIXED = Machine(2, 6, [(0, [], 0), (0, [0], 2), (1, [2, 0], 0), (0, [1], 1), (1, [1, 0], 2), (0, [], 4), (0, [4], 3),
                       (0, [4, 4], 4), (1, [1, 4], 5), (1, [0, 1], 2)], [1, 2, 5])


def useful_by_trees(machine, most):
    """The labels that people of wished trees of at most so many people have, where nobody objects."""
    told = set()
    for tree in trees_up_to(machine.letters, most):
        for labels in lists_without_objection(machine, tree):
            if labels[-1] in machine.ends:
                told.update(labels)
    return sorted(told)


def lists_without_objection(machine, tree):
    """All lists of labels by which nobody objects for its move."""
    letter, children = tree
    told = []
    for lists in itertools.product(*[lists_without_objection(machine, child) for child in children]):
        below = tuple(labels[-1] for labels in lists)
        told += [[label for labels in lists for label in labels] + [own] for own in range(machine.labels)
                 if (letter, below, own) in machine.moves]
    return told


def counter(labels):
    """A row is wished if it has the letter 1 at least one time less than there are labels."""
    moves = [(0, [], 0), (1, [], min(1, labels - 1))]
    for label in range(labels):
        moves += [(0, [label], label), (1, [label], min(label + 1, labels - 1))]
    return Machine(2, labels, moves, [labels - 1])


def around(labels):
    """A row is wished if the number of its people is a multiple of the number of labels."""
    return Machine(1, labels, [(0, [], 1 % labels)] + [(0, [label], (label + 1) % labels) for label in range(labels)],
                   [0])


class Trimmed(unittest.TestCase):
    def test_nothing_to_trim(self):
        for machine in [EVEN, APART, Machine(1, 1, [(0, [], 0)], [0]), counter(8), around(8)]:
            self.assertEqual(trimmed(machine), machine)

    def test_labels_that_no_tree_has(self):
        machine = Machine(2, 4, [(0, [], 1), (1, [1], 3), (0, [0], 0), (0, [1, 2], 3), (1, [0], 3), (0, [2, 2], 2)],
                          [0, 2, 3])
        self.assertEqual(trimmed(machine), Machine(2, 2, [(0, [], 0), (1, [0], 1)], [1]))

    def test_labels_that_trees_have_but_no_wished_one(self):
        machine = Machine(1, 4, [(0, [], 1), (0, [1], 0), (0, [1], 3), (0, [3, 1], 2), (0, [0], 0)], [2])
        self.assertEqual(trimmed(machine), Machine(1, 3, [(0, [], 0), (0, [0], 2), (0, [2, 0], 1)], [1]))

    def test_labels_below_one_that_no_tree_has(self):
        # A wished tree would have to have 2 above 0 and 1, but no tree has 1; so 0 is not useful either.
        machine = Machine(1, 4, [(0, [], 0), (0, [0, 1], 2), (0, [], 3), (0, [1, 0], 3)], [2, 3])
        self.assertEqual(trimmed(machine), Machine(1, 1, [(0, [], 0)], [0]))

    def test_several_ones_and_the_order_of_those_that_stay(self):
        self.assertEqual(trimmed(MIXED), Machine(2, 2, [(0, [], 0), (0, [0], 1), (1, [1, 0], 0)], [1]))
        machine = renamed(Machine(1, 5, [(0, [], 4), (0, [4], 2), (0, [2], 0), (0, [2], 1), (0, [3], 3)], [0, 3]),
                          [4, 0, 2, 1, 3])
        # The labels 3, 2 and 4 are useful, in the order in which trees have them; so they are 1, 0 and 2.
        self.assertEqual(machine.moves, ((0, (), 3), (0, (1,), 1), (0, (2,), 0), (0, (2,), 4), (0, (3,), 2)))
        self.assertEqual(trimmed(machine), Machine(1, 3, [(0, [], 1), (0, [0], 2), (0, [1], 0)], [2]))

    def test_labels_far_from_the_end(self):
        names = [5, 2, 7, 0, 4, 1, 6, 3]
        moves = [(0, [names[0]], names[0]), (0, [], names[7])]
        moves += [(0, [names[at + 1]], names[at]) for at in range(7)]
        machine = Machine(1, 8, moves, [names[0]])
        self.assertEqual(trimmed(machine), machine)
        for at in range(7):
            less = Machine(1, 8, [move for move in moves if move != (0, [names[at + 1]], names[at])], [names[0]])
            self.assertEqual(trimmed(less), Machine(1, 1, [], []))

    def test_none_useful(self):
        for letters in [1, 4]:
            nothing = Machine(letters, 1, [], [])
            for machine in [Machine(letters, 1, [], []), Machine(letters, 8, [], list(range(8))),
                            Machine(letters, 2, [(0, [], 0), (0, [0], 1)], []),
                            Machine(letters, 3, [(0, [], 0), (0, [1], 2)], [1, 2]),
                            Machine(letters, 1, [(0, [0], 0), (0, [0, 0], 0)], [0]),
                            Machine(letters, 1, [(0, [], 0)], [])]:
                self.assertEqual(trimmed(machine), nothing)

    def test_useful_labels_by_wished_trees(self):
        dice = Dice(300)
        seen = []
        for labels, many in itertools.product([1, 2, 3, 4], range(1, 14)):
            machine = sparse_machine(dice, 1, labels, many)
            useful = useful_by_trees(machine, 7)
            made = trimmed(machine)
            if not useful:
                self.assertEqual(made, Machine(1, 1, [], []))
            else:
                self.assertEqual(made.labels, len(useful))
                place = {label: at for at, label in enumerate(useful)}
                moves = [(letter, [place[child] for child in children], place[label])
                         for letter, children, label in machine.moves if {*children, label} <= set(useful)]
                self.assertEqual(made, Machine(1, len(useful), moves,
                                               [place[label] for label in machine.ends if label in place]))
            seen.append((labels, len(useful)))
        self.assertTrue({(2, 0), (3, 0), (4, 1), (4, 2), (4, 3), (4, 4)} <= set(seen), set(seen))

    def test_it_wishes_the_same_trees(self):
        dice = Dice(301)
        for labels, many in itertools.product([2, 3, 5, 8], range(3, 20, 3)):
            machine = sparse_machine(dice, 2, labels, many)
            made = trimmed(machine)
            self.assertEqual(made.letters, 2)
            self.assertTrue(made.labels <= labels)
            for tree in trees_up_to(2, 5):
                self.assertIs(wished(made, tree), wished(machine, tree))

    def test_twice(self):
        dice = Dice(302)
        for labels, many in itertools.product(range(1, 9), range(2, 20, 3)):
            made = trimmed(sparse_machine(dice, 3, labels, many))
            self.assertEqual(trimmed(made), made)
        self.assertEqual(trimmed(trimmed(MIXED)), trimmed(MIXED))


class WebHolds(unittest.TestCase):
    def holds(self, machine, web, right):
        self.assertIs(web_holds(machine, web), right)
        self.assertIs(is_web(machine, web), right)

    def test_the_empty_list(self):
        for machine in [EVEN, Machine(1, 1, [], []), Machine(4, 8, [], [1])]:
            for empty in [[], ()]:
                self.holds(machine, empty, True)

    def test_one_pair(self):
        self.holds(EVEN, [(HOLE, LEAF)], True)
        self.holds(EVEN, [(HOLE, ONE)], False)
        self.holds(EVEN, [((1, (HOLE,)), ONE)], True)
        self.holds(EVEN, [((1, (HOLE,)), LEAF)], False)
        self.holds(Machine(2, 1, [], [0]), [(HOLE, LEAF)], False)
        self.holds(Machine(2, 1, [(0, [], 0)], []), [(HOLE, LEAF)], False)

    def test_two_pairs(self):
        self.holds(EVEN, [(HOLE, LEAF), ((1, (HOLE,)), ONE)], True)
        self.holds(EVEN, [((1, (HOLE,)), ONE), (HOLE, LEAF)], True)
        # Both exchanges are wished.
        self.holds(EVEN, [(HOLE, LEAF), (HOLE, row_tree([1, 1]))], False)
        self.holds(EVEN, [((1, (HOLE,)), ONE), ((1, (HOLE,)), row_tree([0, 1]))], False)
        # One of both is wished, in either order.
        self.holds(APART, [((1, (HOLE,)), LEAF), (HOLE, ONE)], True)
        self.holds(APART, [(HOLE, ONE), ((1, (HOLE,)), LEAF)], True)
        self.holds(APART, [(HOLE, LEAF), (HOLE, ONE)], False)
        # One of them is not wished itself.
        self.holds(EVEN, [(HOLE, LEAF), ((1, (HOLE,)), LEAF)], False)
        self.holds(EVEN, [(HOLE, ONE), ((1, (HOLE,)), ONE)], False)

    def test_a_pair_twice(self):
        for machine, pair in [(EVEN, (HOLE, LEAF)), (EVEN, ((1, (HOLE,)), ONE)), (APART, ((1, (HOLE,)), LEAF))]:
            self.holds(machine, [pair], True)
            self.holds(machine, [pair, pair], False)
            self.holds(machine, [pair, pair, pair], False)

    def test_three_pairs_of_which_two_do_not_fit(self):
        good = [((1, (HOLE,)), LEAF), (HOLE, ONE)]
        for place in range(3):
            self.holds(APART, good[:place] + [(HOLE, row_tree([0, 1]))] + good[place:], False)
            self.holds(APART, good[:place] + [(HOLE, row_tree([1, 1]))] + good[place:], False)
        web = [(row_of_hole([1] * (3 - at)), row_tree([1] * at)) for at in range(1, 4)]
        for turned in itertools.permutations(web):
            self.holds(counter(4), turned, True)
            self.holds(counter(3), turned, False)

    def test_pairs_as_lists_and_webs_as_tuples(self):
        web = [(HOLE, LEAF), ((1, (HOLE,)), ONE)]
        for told in [web, tuple(web), [list(pair) for pair in web], tuple(list(pair) for pair in web)]:
            self.assertIs(web_holds(EVEN, told), True)
            self.assertIs(web_holds(APART, told), False)
            self.assertIs(web_holds(EVEN, told[:1]), True)
            self.assertIs(web_holds(EVEN, [*told, told[0]]), False)

    def test_the_hole_deep_in_the_first_and_in_the_second_child(self):
        # The letter of the person far below is the one of the root; the letters between do not count.
        moves = [(letter, [], letter) for letter in range(2)]
        moves += [(letter, [below, beside], below) for letter in [2] for below in range(2) for beside in range(3)]
        moves += [(3, [2, below], below) for below in range(2)] + [(3, [], 2), (2, [2, 2], 2)]
        moves += [(letter, [letter], 2) for letter in range(2)]
        machine = Machine(4, 3, moves, [2])
        zero, one, three = (0, ()), (1, ()), (3, ())
        first = HOLE
        second = HOLE
        for _ in range(5):
            first = (2, (first, three))
            second = (3, (three, second))
        for context in [first, second, filled(first, second), filled(second, first)]:
            web = [((0, (context,)), zero), ((1, (context,)), one)]
            self.holds(machine, web, True)
            self.holds(machine, [web[0]], True)
            self.holds(machine, [((0, (context,)), one)], False)
            self.holds(machine, [web[0], ((0, (context,)), filled(context, zero))], False)

    def test_pairs_that_are_no_context_and_tree(self):
        machine = Machine(1, 1, [(0, children, 0) for children in [[], [0], [0, 0]]], [0])
        self.assertIs(web_holds(machine, [((0, (HOLE,)), LEAF)]), True)
        for context in [LEAF, (0, (LEAF,)), (0, (HOLE, HOLE)), (0, (HOLE, (0, (HOLE,))))]:
            self.assertIs(web_holds(machine, [(context, LEAF)]), False)
        for tree in [HOLE, (0, (HOLE,)), (0, (LEAF, HOLE))]:
            self.assertIs(web_holds(machine, [(HOLE, tree)]), False)

    def test_letters_that_the_machine_does_not_have(self):
        machine = Machine(1, 1, [(0, children, 0) for children in [[], [0], [0, 0]]], [0])
        self.holds(machine, [((0, (HOLE,)), LEAF)], True)
        self.holds(machine, [((1, (HOLE,)), LEAF)], False)
        self.holds(machine, [((0, (HOLE, (2, ()))), LEAF)], False)
        self.holds(machine, [((0, (HOLE,)), (3, ()))], False)

    def test_each_list_of_a_few_pairs(self):
        dice = Dice(303)
        seen = []
        contexts = [HOLE, (0, (HOLE,)), (1, (HOLE,)), (0, (LEAF, HOLE)), (1, (HOLE, ONE)), row_of_hole([1, 1])]
        trees = [LEAF, ONE, (0, (ONE,)), (1, (LEAF,)), (0, (ONE, LEAF)), row_tree([1, 1])]
        machines = [any_machine(dice, 2, labels, of_ten) for labels in [1, 2, 3] for of_ten in [2, 3, 4, 5]]
        for machine in [EVEN, APART, counter(3), *machines]:
            pairs = [(context, tree) for context in contexts for tree in trees if dice.below(3)]
            for many in [1, 2]:
                for web in itertools.combinations(pairs, many):
                    right = is_web(machine, web)
                    seen.append((many, right))
                    self.assertIs(web_holds(machine, list(web)), right)
            good = [pair for pair in pairs if is_web(machine, [pair])]
            for web in itertools.combinations(good[:10], 3):
                right = is_web(machine, web)
                seen.append((3, right))
                self.assertIs(web_holds(machine, list(web)), right)
        self.assertEqual(set(seen), set(itertools.product([1, 2, 3], [True, False])))

    def test_more_than_200_people(self):
        for many in [199, 200, 400, 1500]:
            web = [(row_of_hole([0] * many), row_tree([1, 1] * many)), (row_of_hole([1] + [0] * many), row_tree([1]))]
            self.assertIs(web_holds(EVEN, web), True)
            self.assertIs(web_holds(EVEN, web[::-1]), True)
            self.assertIs(web_holds(EVEN, [*web, (HOLE, LEAF)]), False)
            self.assertIs(web_holds(EVEN, [(row_of_hole([0] * many), row_tree([1] * (2 * many + 1)))]), False)
        full = Machine(1, 2, [(0, [], 0), (0, [0, 0], 1), (0, [1, 0], 0)], [0])
        for many in [401, 405]:
            tree = comb([0] * many)
            self.assertIs(web_holds(full, [((0, ((0, (HOLE, LEAF)), LEAF)), tree)]), True)
            self.assertIs(web_holds(full, [((0, (HOLE, LEAF)), tree)]), False)


def row_of_hole(row):
    """The context of a row whose people stand behind the hole."""
    context = HOLE
    for letter in row:
        context = (letter, (context,))
    return context


class WebOf(unittest.TestCase):
    def is_right(self, machine):
        """Asks for a web, sees to it that it is one of as many pairs as it may have, and gives it back."""
        web = web_of(machine)
        self.assertIs(is_web(machine, web), True)
        self.assertIs(web_holds(machine, web), True)
        made = trimmed(machine)
        self.assertTrue(len(web) <= made.labels)
        self.assertIs(len(web) >= 1, made.ends != ())
        for pair in web:
            self.assertIsInstance(pair, tuple)
            context, tree = pair
            self.assertEqual(people_of(context).count(HOLE), 1)
            self.assertEqual(people_of(tree).count(HOLE), 0)
        return web

    def test_it_is_a_list_of_pairs(self):
        self.assertIsInstance(self.is_right(EVEN), list)
        self.assertIsInstance(self.is_right(Machine(1, 1, [], [])), list)

    def test_no_tree_is_wished(self):
        for machine in [Machine(1, 1, [], []), Machine(4, 8, [], list(range(8))), Machine(2, 2, [(0, [], 0)], [1]),
                        Machine(2, 2, EVEN.moves, []), Machine(1, 3, [(0, [0], 0), (0, [1, 2], 1)], [0, 1])]:
            self.assertEqual(web_of(machine), [])

    def test_one_tree_is_wished(self):
        self.assertEqual(self.is_right(Machine(1, 1, [(0, [], 0)], [0])), [(HOLE, LEAF)])
        web = self.is_right(Machine(4, 8, [(3, [], 7)], [7, 6]))
        self.assertEqual(web, [(HOLE, (3, ()))])

    def test_webs_of_as_many_pairs_as_labels(self):
        self.assertEqual(len(self.is_right(EVEN)), 2)
        self.assertEqual(len(self.is_right(APART)), 2)
        for labels in range(1, 9):
            self.assertEqual(len(self.is_right(counter(labels))), labels)
            self.assertEqual(len(self.is_right(around(labels))), labels)

    def test_labels_that_are_not_needed(self):
        for machine in [EVEN, APART, counter(3), around(4)]:
            twice = either(machine, machine)
            self.assertEqual(trimmed(twice).labels, 2 * machine.labels)
            self.assertEqual(len(self.is_right(twice)), machine.labels)
        self.assertEqual(len(self.is_right(MIXED)), 2)

    def test_any_machines(self):
        dice = Dice(304)
        seen = []
        for labels, many in itertools.product([1, 2, 3, 4, 6, 8], range(1, 24, 2)):
            for letters in [1, 2, 4]:
                machine = sparse_machine(dice, letters, labels, many)
                seen.append(len(self.is_right(machine)))
                small = trees_up_to(letters, 4 if letters < 4 else 3)
                if any(wished(machine, tree) for tree in small):
                    self.assertTrue(seen[-1])
        self.assertTrue({0, 1, 2, 3, 4} <= set(seen), set(seen))

    def test_full_machines(self):
        dice = Dice(305)
        for labels, of_ten in itertools.product([2, 3, 4], [1, 2, 4, 7, 10]):
            self.is_right(any_machine(dice, 2, labels, of_ten))

    def test_a_web_of_more_than_200_people(self):
        # Two children with the same label lead to the next one, so the last label needs 255 people.
        machine = Machine(1, 8, [(0, [], 0)] + [(0, [at, at], at + 1) for at in range(7)], [7])
        web = self.is_right(machine)
        self.assertEqual(len(web), 8)
        for context, tree in web:
            self.assertEqual(people(filled(context, tree)), 255)

    def test_sets_of_labels_that_only_very_many_people_have(self):
        # A set that goes around with every generation of two children alike; webs stay small all the same.
        moves = [(0, [], 0), (0, [], 3)]
        for start, many in [(0, 3), (3, 5)]:
            moves += [(0, [start + at, start + at], start + (at + 1) % many) for at in range(many)]
        for ends in [[2], [2, 7], [0, 3], list(range(8))]:
            for context, tree in self.is_right(Machine(1, 8, moves, ends)):
                self.assertTrue(people(context) + people(tree) < 5000)


class AtLeastAsManyLabels(unittest.TestCase):
    """Point [18]: by going through all machines of fewer labels than a web has pairs."""

    def test_no_machine_of_one_label_where_a_web_has_two_pairs(self):
        dice = Dice(306)
        asked = 0
        for labels, many in itertools.product([2, 3, 4], range(2, 16)):
            for letters in [1, 2]:
                machine = sparse_machine(dice, letters, labels, many)
                web = web_of(machine)
                if len(web) >= 2:
                    asked += 1
                    self.none_wishes_the_same(machine, web, self.machines_of_one_label(letters))
        self.assertTrue(asked >= 20)

    def machines_of_one_label(self, letters):
        every = [(letter, children, 0) for letter in range(letters) for children in [(), (0,), (0, 0)]]
        return [Machine(letters, 1, moves, ends) for many in range(len(every) + 1)
                for moves in itertools.combinations(every, many) for ends in [[], [0]]]

    def none_wishes_the_same(self, machine, web, others):
        trees = [filled_with(context, tree) for context, _ in web for _, tree in web]
        told = [wished(machine, tree) for tree in trees]
        for made in others:
            self.assertFalse(all(wished(made, tree) == right for tree, right in zip(trees, told)), (web, made.moves))

    def test_none_of_two_labels_where_a_web_has_three_pairs(self):
        # The trees are rows, so moves of two children do not count.
        every = [(0, children, label) for children in [(), (0,), (1,)] for label in range(2)]
        others = [Machine(1, 2, moves, ends) for many in range(7) for moves in itertools.combinations(every, many)
                  for ends in [[], [0], [1], [0, 1]]]
        chain = Machine(1, 4, [(0, [], 0), (0, [0], 1), (0, [1], 2), (0, [2], 3), (0, [3], 3)], [0, 2])
        for machine in [around(3), around(4), around(5), chain]:
            web = web_of(machine)
            self.assertTrue(len(web) >= 3)
            self.none_wishes_the_same(machine, web[:3], others)
        # Where two labels are enough the machine itself is among those that are gone through.
        self.assertIn(around(2), others)
        with self.assertRaises(AssertionError):
            self.none_wishes_the_same(around(2), web_of(around(2)), others)

    def test_a_machine_of_as_many_labels_as_pairs(self):
        for labels in range(1, 5):
            machine = around(labels)
            self.assertEqual(len(web_of(machine)), machine.labels)
            self.assertIsNone(difference(machine, renamed(machine, list(range(labels))[::-1])))


class Arguments(unittest.TestCase):
    def machines(self):
        dice = Dice(307)
        return [EVEN, MIXED, any_machine(dice, 2, 3, 3), sparse_machine(dice, 2, 4, 9), counter(3)]

    def test_they_stay_as_they_were(self):
        for machine in self.machines():
            web = [list(pair) for pair in web_of(machine)]
            before = copy.deepcopy((machine, web))
            trimmed(machine)
            web_holds(machine, web)
            web_of(machine)
            self.assertEqual((machine, web), before)

    def test_a_web_of_lists_throughout(self):
        web = [(read_tree("1 2 hole 0 0"), ONE)]
        machine = Machine(2, 2, [(1, [1, 0], 0), (0, [], 0), (1, [], 1)], [0])
        self.assertIs(web_holds(machine, web), True)
        self.assertIs(web_holds(machine, as_lists(web)), True)

    def test_arguments_have_their_names(self):
        self.assertEqual(trimmed(machine=EVEN), EVEN)
        self.assertIs(web_holds(machine=EVEN, web=web_of(machine=EVEN)), True)

    def test_an_answer_may_be_changed(self):
        for machine in self.machines():
            kept = (trimmed(machine), web_of(machine))
            made = trimmed(machine)
            self.assertIsNot(made, machine)
            made.labels, made.moves, made.ends = 1, (), ()
            web_of(machine).clear()
            self.assertEqual((trimmed(machine), web_of(machine)), kept)

    def test_asked_in_turn(self):
        machines = self.machines()
        webs = [web_of(machine) for machine in machines]
        alone = [(trimmed(machine), web, [web_holds(machine, told) for told in webs])
                 for machine, web in zip(machines, webs)]
        for _ in range(2):
            self.assertEqual([(trimmed(machine), web_of(machine), [web_holds(machine, told) for told in webs])
                              for machine in machines], alone)
        for machine, web in zip(machines, webs):
            self.assertEqual([web_holds(machine, told) for told in webs], [is_web(machine, told) for told in webs])

    def test_one_pair_with_the_hole_alone_asks_for_a_tree_that_is_wished(self):
        dice = Dice(308)
        machine = any_machine(dice, 2, 3, 3)
        tree = any_tree(dice, 2, 60)
        self.assertIs(web_holds(machine, [(HOLE, tree)]), wishes(machine, tree))
        self.assertIs(bool(set_at(machine, tree) & set(machine.ends)), wishes(machine, tree))


if __name__ == "__main__":
    unittest.main()
