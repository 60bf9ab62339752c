"""Trees and rows by point [2], and contexts that are filled by point [17]."""

import copy
import unittest

from someobjects.trees import filled, people, row_tree

HOLE = (None, ())
LEAF = (0, ())


def deep(many):
    """A row of many letters as a tree, made by hand."""
    tree = (0, ())
    for at in range(1, many):
        tree = (at % 4, (tree,))
    return tree


class Rows(unittest.TestCase):
    def test_one_letter(self):
        self.assertEqual(row_tree([0]), (0, ()))
        self.assertEqual(row_tree([7]), (7, ()))

    def test_several_letters(self):
        self.assertEqual(row_tree([1, 2]), (2, ((1, ()),)))
        self.assertEqual(row_tree([3, 0, 3, 1]), (1, ((3, ((0, ((3, ()),)),)),)))

    def test_a_tuple(self):
        self.assertEqual(row_tree((5,)), (5, ()))
        self.assertEqual(row_tree((1, 2, 0)), (0, ((2, ((1, ()),)),)))

    def test_letters_of_any_size(self):
        self.assertEqual(row_tree([12, 345]), (345, ((12, ()),)))

    def test_long_rows(self):
        for many in [200, 205]:
            self.assertEqual(row_tree([at % 4 for at in range(many)]), deep(many))

    def test_the_row_stays_as_it_was(self):
        row = [2, 0, 1]
        tree = row_tree(row)
        self.assertEqual(row, [2, 0, 1])
        row[0] = 3
        row.append(3)
        self.assertEqual(tree, (1, ((0, ((2, ()),)),)))

    def test_children_are_tuples(self):
        letter, children = row_tree([1, 0])
        self.assertIsInstance(row_tree([1, 0]), tuple)
        self.assertIsInstance(children, tuple)
        self.assertEqual((letter, children), (0, ((1, ()),)))


class People(unittest.TestCase):
    def test_one_node(self):
        self.assertEqual(people(LEAF), 1)
        self.assertEqual(people((9, ())), 1)

    def test_one_and_two_children(self):
        self.assertEqual(people((1, (LEAF,))), 2)
        self.assertEqual(people((1, (LEAF, LEAF))), 3)
        self.assertEqual(people((1, ((0, (LEAF,)), LEAF))), 4)
        self.assertEqual(people((1, (LEAF, (0, (LEAF,))))), 4)
        self.assertEqual(people((1, ((0, (LEAF, LEAF)), (2, (LEAF, (3, (LEAF,))))))), 8)

    def test_rows(self):
        for many in [1, 2, 199, 200, 201, 210, 300]:
            self.assertEqual(people(row_tree([0] * many)), many)

    def test_full_trees(self):
        tree = LEAF
        for height in range(1, 8):
            self.assertEqual(people(tree), 2 ** height - 1)
            tree = (height, (tree, tree))


class Filled(unittest.TestCase):
    def test_the_hole_is_the_whole_context(self):
        for tree in [LEAF, (3, (LEAF, (1, (LEAF,)))), row_tree([1, 2, 3])]:
            self.assertEqual(filled(HOLE, tree), tree)

    def test_the_hole_is_a_child(self):
        tree = (2, (LEAF,))
        self.assertEqual(filled((1, (HOLE,)), tree), (1, (tree,)))
        self.assertEqual(filled((1, (HOLE, LEAF)), tree), (1, (tree, LEAF)))
        self.assertEqual(filled((1, (LEAF, HOLE)), tree), (1, (LEAF, tree)))

    def test_the_hole_is_deep_in_the_first_child(self):
        tree = (3, (LEAF, (2, ())))
        context = (1, ((2, ((0, (HOLE, (4, ()))), (5, ()))), (6, (LEAF,))))
        self.assertEqual(filled(context, tree), (1, ((2, ((0, (tree, (4, ()))), (5, ()))), (6, (LEAF,)))))

    def test_the_hole_is_deep_in_the_second_child(self):
        tree = (3, (LEAF, (2, ())))
        context = (1, ((6, (LEAF,)), (2, ((5, ()), (0, ((4, ()), HOLE))))))
        self.assertEqual(filled(context, tree), (1, ((6, (LEAF,)), (2, ((5, ()), (0, ((4, ()), tree)))))))

    def test_a_hole_under_many(self):
        context = HOLE
        for at in range(150):
            context = (at % 3, (context,) if at % 2 else (LEAF, context))
        made = filled(context, row_tree([1] * 100))
        self.assertEqual(people(made), 150 + 75 + 100)
        below = made
        for at in reversed(range(150)):
            self.assertEqual(below[0], at % 3)
            below = below[1][-1]
        self.assertEqual(below, row_tree([1] * 100))

    def test_the_tree_takes_the_place_of_the_hole_only(self):
        context = (0, ((0, ()), HOLE))
        self.assertEqual(filled(context, (0, ())), (0, ((0, ()), (0, ()))))

    def test_arguments_stay_as_they_were(self):
        context = (1, ((0, (HOLE,)), LEAF))
        tree = (2, (LEAF,))
        filled(context, tree)
        self.assertEqual(context, (1, ((0, (HOLE,)), LEAF)))
        self.assertEqual(tree, (2, (LEAF,)))

    def test_lists_of_children_are_copied(self):
        context = (1, [(0, [(None, [])]), (0, [])])
        tree = (2, [(0, [])])
        before = copy.deepcopy((context, tree))
        made = filled(context, tree)
        self.assertEqual((context, tree), before)
        tree[1].append((3, []))
        context[1].clear()
        self.assertEqual(made, (1, ((0, ((2, (LEAF,)),)), LEAF)))


if __name__ == "__main__":
    unittest.main()
