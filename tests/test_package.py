"""Point [1]: where things are defined, and that the program uses nothing from outside."""

import ast
import pathlib
import unittest

from someobjects import errors, machine, trees

PACKAGE = pathlib.Path(errors.__file__).parent


class Interface(unittest.TestCase):
    def test_each_name_is_defined_under_its_heading(self):
        headings = {
            machine: ["Machine", "read_machine", "machine_text"],
            trees: ["row_tree", "people", "read_tree", "tree_text", "filled"],
        }
        for module, names in headings.items():
            for name in names:
                self.assertEqual(getattr(module, name).__module__, module.__name__, name)

    def test_arguments_have_their_names(self):
        made = machine.Machine(letters=1, labels=1, moves=[(0, [], 0)], ends=[0])
        self.assertEqual(machine.read_machine(text=machine.machine_text(machine=made)), made)
        tree = trees.row_tree(row=[1, 0])
        self.assertEqual(trees.people(tree=tree), 2)
        self.assertEqual(trees.read_tree(text=trees.tree_text(tree=tree)), tree)
        self.assertEqual(trees.filled(context=(None, ()), tree=tree), tree)


class NothingFromOutside(unittest.TestCase):
    def test_only_the_package_is_imported(self):
        for path in sorted(PACKAGE.rglob("*.py")):
            for node in ast.walk(ast.parse(path.read_text(encoding="utf-8"))):
                self.assertNotIsInstance(node, ast.Import, path)
                if isinstance(node, ast.ImportFrom):
                    self.assertEqual(node.module.split(".")[0], "someobjects", path)

    def test_no_file_is_opened_and_nothing_is_printed(self):
        for path in sorted(PACKAGE.rglob("*.py")):
            for node in ast.walk(ast.parse(path.read_text(encoding="utf-8"))):
                if isinstance(node, ast.Name):
                    self.assertNotIn(node.id, ["open", "input", "print", "eval", "exec", "__import__"], path)


if __name__ == "__main__":
    unittest.main()
