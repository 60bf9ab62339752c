"""What the document says, reckoned by going through all lists of labels, and things to ask about.

Only for small trees and rings. Nothing here is taken from the program but Machine.
"""

import itertools

from someobjects.machine import Machine


def numbered(tree):
    """For each person of a tree, in order, its letter and the numbers of its children."""
    letter, children = tree
    told = []
    roots = []
    for child in children:
        for below, numbers in numbered(child):
            told.append((below, tuple(number + (roots[-1] + 1 if roots else 0) for number in numbers)))
        roots.append(len(told) - 1)
    return told + [(letter, tuple(roots))]


def parts(tree):
    """For each person of a tree, in order, the tree below it with itself as the root."""
    return [part for child in tree[1] for part in parts(child)] + [tree]


def moves_without(machine, tree, labels):
    """The people that have no move."""
    people = numbered(tree)
    return [at for at, (letter, children) in enumerate(people)
            if (letter, tuple(labels[child] for child in children), labels[at]) not in machine.moves]


def against(machine, tree, labels):
    """The people of a tree that object."""
    told = set(moves_without(machine, tree, labels))
    if labels[-1] not in machine.ends:
        told.add(len(labels) - 1)
    return sorted(told)


def ring_against(machine, ring, labels):
    """The people of a ring that object."""
    told = []
    for at, letter in enumerate(ring):
        before = labels[len(ring) - 1] if at == 0 else labels[at - 1]
        if (letter, (before,), labels[at]) not in machine.moves:
            told.append(at)
    return told


def lists_of(machine, many):
    """All lists of labels, in their order."""
    return [list(labels) for labels in itertools.product(range(machine.labels), repeat=many)]


def cost_with(prices, fine, labels, objections):
    if objections and fine is None:
        return None
    return sum(own[label] for own, label in zip(prices, labels)) + objections * (fine or 0)


def least(costs):
    told = [cost for cost in costs if cost is not None]
    return min(told) if told else None


def best_by_all(machine, prices, fine, many, objecting):
    """The least cost and the first of the best labels, by a function that tells who objects; or None twice."""
    best = (None, None)
    for labels in lists_of(machine, many):
        cost = cost_with(prices, fine, labels, len(objecting(labels)))
        if cost is not None and (best[0] is None or cost < best[0]):
            best = (cost, labels)
    return best


def numbers_by_all(machine, tree, prices, fine):
    """The numbers of point [7], each as the least cost in the tree below a person with a label."""
    rows = []
    for at, part in enumerate(parts(tree)):
        many = len(numbered(part))
        below = prices[at + 1 - many:at + 1]
        row = []
        for label in range(machine.labels):
            lists = [labels for labels in lists_of(machine, many) if labels[-1] == label]
            row.append(least(cost_with(below, fine, labels, len(moves_without(machine, part, labels)))
                             for labels in lists))
        rows.append(row)
    return rows


def ends_by_all(machine, tree, prices, fine):
    """The second list of the root."""
    lists = lists_of(machine, len(prices))
    return [least(cost_with(prices, fine, labels, len(against(machine, tree, labels)))
                  for labels in lists if labels[-1] == label) for label in range(machine.labels)]


def ring_numbers_by_all(machine, ring, prices, fine):
    """The numbers of point [11], each as the least cost of the people from the second one up to one."""
    told = []
    for first in range(machine.labels):
        rows = []
        for at in range(len(ring)):
            lists = [labels for labels in lists_of(machine, at + 1) if labels[0] == first]
            rows.append([least(ring_part_cost(machine, ring, prices, fine, labels)
                               for labels in lists if labels[-1] == label) for label in range(machine.labels)])
        told.append(rows)
    return told


def ring_part_cost(machine, ring, prices, fine, labels):
    objections = 0
    for at in range(1, len(labels)):
        objections += (ring[at], (labels[at - 1],), labels[at]) not in machine.moves
    return cost_with(prices[1:], fine, labels[1:], objections)


class Dice:
    """Numbers that look thrown and are the same in each run."""

    def __init__(self, seed):
        self.state = seed

    def below(self, many):
        self.state = (self.state * 6364136223846793005 + 1442695040888963407) % 2 ** 64
        return (self.state >> 33) % many


def any_machine(dice, letters, labels, of_ten):
    """A machine that has each move in so many of ten cases."""
    moves = [(letter, children, label) for letter in range(letters) for many in range(3)
             for children in itertools.product(range(labels), repeat=many) for label in range(labels)
             if dice.below(10) < of_ten]
    return Machine(letters, labels, moves, [label for label in range(labels) if dice.below(2)])


def any_tree(dice, letters, many):
    """A tree of so many people."""
    letter = dice.below(letters)
    if many == 1:
        return (letter, ())
    if many == 2 or dice.below(3) == 0:
        return (letter, (any_tree(dice, letters, many - 1),))
    first = 1 + dice.below(many - 2)
    return (letter, (any_tree(dice, letters, first), any_tree(dice, letters, many - 1 - first)))


def any_prices(dice, many, labels, highest):
    return [[dice.below(highest + 1) for _ in range(labels)] for _ in range(many)]


def as_tuples(rows):
    """What is in lists, in tuples."""
    return tuple(as_tuples(row) for row in rows) if isinstance(rows, (list, tuple)) else rows


def as_lists(rows):
    """What is in tuples, in lists."""
    return [as_lists(row) for row in rows] if isinstance(rows, (list, tuple)) else rows


def comb(letters):
    """A tree with two children at a node, of as many people as letters, an odd number: each first child goes on."""
    tree = (letters[0], ())
    for at in range(1, len(letters), 2):
        tree = (letters[at + 1], (tree, (letters[at], ())))
    return tree
