"""Point [1]: where things are defined, and that the program uses nothing from outside."""

import ast
import pathlib
import unittest

from someobjects import errors, join, least, machine, paper, ring, rule, seen, trees, web

PACKAGE = pathlib.Path(errors.__file__).parent


class Interface(unittest.TestCase):
    def test_each_name_is_defined_under_its_heading(self):
        headings = {
            machine: ["Machine", "read_machine", "machine_text"],
            trees: ["row_tree", "people", "read_tree", "tree_text", "filled"],
            seen: ["objectors", "ring_objectors", "wishes", "ring_wishes", "ways"],
            least: ["Found", "best", "judge", "fewest_objections", "after_change"],
            ring: ["best_ring", "judge_ring"],
            rule: ["Rule", "rule_objectors", "rule_wishes", "machine_of_rule", "rule_of_machine"],
            join: ["both", "either", "other", "difference"],
            web: ["trimmed", "web_holds", "web_of"],
            paper: ["paper_lines", "read_paper", "read_ring_paper"],
        }
        for module, names in headings.items():
            for name in names:
                self.assertEqual(getattr(module, name).__module__, module.__name__, name)

    def test_arguments_have_their_names(self):
        made = machine.Machine(letters=1, labels=1, moves=[(0, [], 0)], ends=[0])
        self.assertEqual(machine.read_machine(text=machine.machine_text(machine=made)), made)
        tree = trees.row_tree(row=[1, 0])
        self.assertEqual(trees.people(tree=tree), 2)
        self.assertEqual(trees.read_tree(text=trees.tree_text(tree=tree)), tree)
        self.assertEqual(trees.filled(context=(None, ()), tree=tree), tree)

    def test_arguments_have_their_names_in_what_is_seen_and_found(self):
        made = machine.Machine(1, 1, [(0, [], 0), (0, [0], 0)], [0])
        tree, row, prices = trees.row_tree([0, 0]), [0, 0], [[1], [2]]
        self.assertEqual(seen.objectors(machine=made, tree=tree, labels=[0, 0]), [])
        self.assertEqual(seen.ring_objectors(machine=made, ring=row, labels=[0, 0]), [])
        self.assertIs(seen.wishes(machine=made, tree=tree), True)
        self.assertIs(seen.ring_wishes(machine=made, ring=row), True)
        self.assertEqual(seen.ways(machine=made, tree=tree), 1)
        found = least.best(machine=made, tree=tree, prices=prices, fine=None)
        self.assertIs(least.judge(machine=made, tree=tree, prices=prices, fine=None, found=found), True)
        self.assertEqual(least.fewest_objections(machine=made, tree=tree).cost, 0)
        self.assertEqual(least.after_change(machine=made, tree=tree, old=[0, 0]).cost, 0)
        found = ring.best_ring(machine=made, ring=row, prices=prices, fine=None)
        self.assertIs(ring.judge_ring(machine=made, ring=row, prices=prices, fine=None, found=found), True)

    def test_arguments_have_their_names_in_rules_and_papers(self):
        made = rule.Rule(letters=1, labels=1, lets=[(None, 0, 0, None)])
        self.assertEqual(rule.rule_objectors(rule=made, row=[0], labels=[0]), [])
        self.assertIs(rule.rule_wishes(rule=made, row=[0]), True)
        self.assertEqual(rule.rule_of_machine(machine=rule.machine_of_rule(rule=made)).letters, 1)
        found = least.Found(kind="none", cost=None, labels=[], numbers=[[None]], ends=[None])
        self.assertEqual(paper.read_paper(count=1, labels=1, lines=paper.paper_lines(found=found)), found)
        found = least.Found(kind="none", cost=None, labels=[], numbers=[[[0]]], ends=[])
        self.assertEqual(paper.read_ring_paper(count=1, labels=1, lines=paper.paper_lines(found=found)), found)

    def test_arguments_have_their_names_in_machines_put_together_and_webs(self):
        made = machine.Machine(1, 1, [(0, [], 0)], [0])
        for asked in [join.both, join.either]:
            self.assertEqual(asked(one=made, other=made).letters, 1)
        self.assertEqual(join.other(machine=made).letters, 1)
        self.assertIsNone(join.difference(one=made, other=made))
        self.assertEqual(web.trimmed(machine=made), made)
        self.assertIs(web.web_holds(machine=made, web=web.web_of(machine=made)), True)

    def test_a_class_has_its_methods_itself(self):
        for made in [machine.Machine, least.Found, rule.Rule]:
            for name in ["__init__", "__eq__"]:
                self.assertIn(name, vars(made))


class NothingFromOutside(unittest.TestCase):
    def test_only_the_package_and_heaps_are_imported(self):
        for path in sorted(PACKAGE.rglob("*.py")):
            for node in ast.walk(ast.parse(path.read_text(encoding="utf-8"))):
                self.assertNotIsInstance(node, ast.Import, path)
                if isinstance(node, ast.ImportFrom):
                    self.assertIn(node.module.split(".")[0], ["someobjects", "heapq"], path)

    def test_no_file_is_opened_and_nothing_is_printed(self):
        for path in sorted(PACKAGE.rglob("*.py")):
            for node in ast.walk(ast.parse(path.read_text(encoding="utf-8"))):
                if isinstance(node, ast.Name):
                    self.assertNotIn(node.id, ["open", "input", "print", "eval", "exec", "__import__"], path)


if __name__ == "__main__":
    unittest.main()
