"""What point [1] and the paragraph under "The interface" say of the whole program, asked of each function."""

import copy
import unittest

from reference import Dice, any_machine, any_prices, any_tree, as_tuples
from someobjects.errors import BadMachine, BadPaper, BadRule, BadText, ObjectError, TooLarge
from someobjects.join import both, difference, either, other
from someobjects.least import Found, after_change, best, fewest_objections, judge
from someobjects.machine import Machine, machine_text, read_machine
from someobjects.paper import paper_lines, read_paper, read_ring_paper
from someobjects.ring import best_ring, judge_ring
from someobjects.rule import Rule, machine_of_rule, rule_objectors, rule_of_machine, rule_wishes
from someobjects.seen import objectors, ring_objectors, ring_wishes, ways, wishes
from someobjects.trees import filled, people, read_tree, row_tree, tree_text
from someobjects.web import trimmed, web_holds, web_of

HOLE = (None, ())
NAMES = [both, difference, either, other, Found, after_change, best, fewest_objections, judge, Machine, machine_text,
         read_machine, paper_lines, read_paper, read_ring_paper, best_ring, judge_ring, Rule, machine_of_rule,
         rule_objectors, rule_of_machine, rule_wishes, objectors, ring_objectors, ring_wishes, ways, wishes, filled,
         people, read_tree, row_tree, tree_text, trimmed, web_holds, web_of]


def questions(seed, fine):
    """For each function and class of the interface arguments, all of one machine."""
    dice = Dice(seed)
    machine = any_machine(dice, 2, 2, 5)
    another = any_machine(dice, 2, 3, 3)
    tree = any_tree(dice, 2, 5)
    row = [dice.below(2) for _ in range(4)]
    prices = any_prices(dice, 5, 2, 9)
    labels = [dice.below(2) for _ in range(5)]
    lets = [[None, 0, 0, 1], [0, 0, 1, None], [None, 1, 1, None], [0, 0, 1, None], [1, 1, dice.below(2), 0]]
    rule = Rule(2, 2, lets)
    found, found_of_ring = best(machine, tree, prices, fine), best_ring(machine, row, prices[:4], fine)
    web = [[(1, (HOLE,)), (dice.below(2), ())], [HOLE, tree]]
    moves = [[move[0], list(move[1]), move[2]] for move in machine.moves]
    return [
        (Machine, 2, 2, moves + moves[:1], [1, 0, 1]), (machine_text, machine), (read_machine, machine_text(another)),
        (row_tree, row), (people, tree), (read_tree, tree_text(tree)), (tree_text, tree),
        (filled, (0, ((1, ()), HOLE)), tree), (objectors, machine, tree, labels),
        (ring_objectors, machine, row, labels[:4]), (wishes, machine, tree), (ring_wishes, machine, row),
        (ways, machine, tree), (Found, "best", 3, labels, found.numbers, found.ends),
        (Found, "best", 3, labels, found_of_ring.numbers, []), (best, machine, tree, prices, fine),
        (judge, machine, tree, prices, fine, found), (fewest_objections, machine, tree),
        (after_change, machine, tree, labels), (best_ring, machine, row, prices[:4], fine),
        (judge_ring, machine, row, prices[:4], fine, found_of_ring), (Rule, 2, 2, lets),
        (rule_objectors, rule, row, labels[:4]), (rule_wishes, rule, row), (machine_of_rule, rule),
        (rule_of_machine, machine), (both, machine, another), (either, machine, another), (other, machine),
        (difference, machine, another), (trimmed, machine), (web_holds, machine, web), (web_of, machine),
        (paper_lines, found), (paper_lines, found_of_ring), (read_paper, 5, 2, paper_lines(found)),
        (read_ring_paper, 4, 2, paper_lines(found_of_ring)),
    ]


def answer(question):
    """What a function answers, or how it refuses."""
    asked, *arguments = question
    try:
        return asked(*arguments)
    except ObjectError as error:
        return error.__class__.__name__, vars(error)


def with_tuples(argument):
    return as_tuples(argument) if isinstance(argument, list) else argument


def spoil(thing):
    """Changes whatever can be changed of an answer."""
    if isinstance(thing, list):
        for part in thing:
            spoil(part)
        thing.append("spoilt")
        thing[0] = "spoilt"
    elif isinstance(thing, (Machine, Rule, Found)):
        for name, part in list(vars(thing).items()):
            spoil(part)
            setattr(thing, name, "spoilt")


def numbers_in(thing):
    """All that stands in an answer and is no list, tuple or object."""
    if isinstance(thing, (list, tuple)):
        return [told for part in thing for told in numbers_in(part)]
    if isinstance(thing, (Machine, Rule, Found)):
        return [told for part in vars(thing).values() for told in numbers_in(part)]
    return [thing]


class WholeProgram(unittest.TestCase):
    def setUp(self):
        self.questions = [question for seed, fine in [(500, None), (501, 2), (503, None), (504, 0)]
                          for question in questions(seed, fine)]

    def test_each_function_is_asked(self):
        asked = [question[0] for question in self.questions]
        for name in NAMES:
            self.assertEqual(asked.count(name) % 4, 0)
            self.assertIn(name, asked)

    def test_few_are_refused(self):
        refused = [question[0].__name__ for question in self.questions
                   if isinstance(answer(question), tuple) and answer(question)[0] == "TooLarge"]
        self.assertTrue(len(refused) <= 4, refused)

    def test_arguments_stay_as_they_were(self):
        for question in self.questions:
            before = copy.deepcopy(question)
            answer(question)
            self.assertEqual(question, before, question[0])

    def test_lists_and_tuples_are_taken_alike(self):
        for question in self.questions:
            self.assertEqual(answer([with_tuples(argument) for argument in question]), answer(question), question[0])

    def test_an_answer_may_be_changed(self):
        for question in self.questions:
            kept = copy.deepcopy(answer(question))
            spoil(answer(question))
            self.assertEqual(answer(question), kept, question[0])

    def test_an_answer_does_not_change_with_the_arguments(self):
        for question in self.questions:
            spoilt = copy.deepcopy(question)
            told = answer(spoilt)
            for argument in spoilt[1:]:
                spoil(argument)
            self.assertEqual(told, answer(question), question[0])

    def test_asked_in_turn_and_twice(self):
        alone = [copy.deepcopy(answer(question)) for question in self.questions]
        self.assertEqual([answer(question) for question in self.questions], alone)
        self.assertEqual([answer(question) for question in self.questions[::-1]], alone[::-1])
        many = len(self.questions) // 4
        for at in range(many):
            for _ in range(2):
                for question, told in list(zip(self.questions, alone))[at::many]:
                    self.assertEqual(answer(question), told)

    def test_true_and_false_stand_for_no_numbers(self):
        for question in self.questions:
            told = answer(question)
            if question[0] in [wishes, ring_wishes, judge, judge_ring, rule_wishes, web_holds]:
                self.assertIsInstance(told, bool)
            else:
                for number in numbers_in(told):
                    self.assertNotIsInstance(number, bool, question[0])


class Attributes(unittest.TestCase):
    def test_they_are_set_on_each_object(self):
        self.assertEqual(set(vars(Machine(1, 1, [], []))), {"letters", "labels", "moves", "ends"})
        self.assertEqual(set(vars(Rule(1, 1, []))), {"letters", "labels", "lets"})
        self.assertEqual(set(vars(Found("none", None, [], [[0]], [None]))),
                         {"kind", "cost", "labels", "numbers", "ends"})

    def test_they_are_set_on_each_error_that_is_raised(self):
        full = Machine(4, 8, [], [])
        for kind, name, asked in [(BadText, "at", lambda: read_machine("")), (BadText, "at", lambda: read_tree("x")),
                                  (BadPaper, "at", lambda: read_paper(1, 1, [])),
                                  (BadPaper, "at", lambda: read_ring_paper(1, 1, [])),
                                  (BadMachine, "what", lambda: Machine(0, 1, [], [])),
                                  (BadMachine, "what", lambda: both(full, Machine(1, 1, [], []))),
                                  (BadRule, "what", lambda: Rule(0, 1, [])),
                                  (TooLarge, "what", lambda: either(full, full)),
                                  (TooLarge, "what", lambda: rule_of_machine(full))]:
            with self.assertRaises(ObjectError) as caught:
                asked()
            self.assertIs(caught.exception.__class__, kind)
            self.assertIn(name, vars(caught.exception))


if __name__ == "__main__":
    unittest.main()
