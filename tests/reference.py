"""What the document says, reckoned by going through all lists of labels, and things to ask about.

Only for small trees and rings. Nothing here is taken from the program but Machine.
"""

import itertools

from someobjects.machine import Machine


def numbered(tree):
    """For each person of a tree, in order, its letter and the numbers of its children."""
    letter, children = tree
    told = []
    roots = []
    for child in children:
        for below, numbers in numbered(child):
            told.append((below, tuple(number + (roots[-1] + 1 if roots else 0) for number in numbers)))
        roots.append(len(told) - 1)
    return told + [(letter, tuple(roots))]


def parts(tree):
    """For each person of a tree, in order, the tree below it with itself as the root."""
    return [part for child in tree[1] for part in parts(child)] + [tree]


def moves_without(machine, tree, labels):
    """The people that have no move."""
    people = numbered(tree)
    return [at for at, (letter, children) in enumerate(people)
            if (letter, tuple(labels[child] for child in children), labels[at]) not in machine.moves]


def against(machine, tree, labels):
    """The people of a tree that object."""
    told = set(moves_without(machine, tree, labels))
    if labels[-1] not in machine.ends:
        told.add(len(labels) - 1)
    return sorted(told)


def ring_against(machine, ring, labels):
    """The people of a ring that object."""
    told = []
    for at, letter in enumerate(ring):
        before = labels[len(ring) - 1] if at == 0 else labels[at - 1]
        if (letter, (before,), labels[at]) not in machine.moves:
            told.append(at)
    return told


def lists_of(machine, many):
    """All lists of labels, in their order."""
    return [list(labels) for labels in itertools.product(range(machine.labels), repeat=many)]


def cost_with(prices, fine, labels, objections):
    if objections and fine is None:
        return None
    return sum(own[label] for own, label in zip(prices, labels)) + objections * (fine or 0)


def least(costs):
    told = [cost for cost in costs if cost is not None]
    return min(told) if told else None


def best_by_all(machine, prices, fine, many, objecting):
    """The least cost and the first of the best labels, by a function that tells who objects; or None twice."""
    best = (None, None)
    for labels in lists_of(machine, many):
        cost = cost_with(prices, fine, labels, len(objecting(labels)))
        if cost is not None and (best[0] is None or cost < best[0]):
            best = (cost, labels)
    return best


def numbers_by_all(machine, tree, prices, fine):
    """The numbers of point [7], each as the least cost in the tree below a person with a label."""
    rows = []
    for at, part in enumerate(parts(tree)):
        many = len(numbered(part))
        below = prices[at + 1 - many:at + 1]
        row = []
        for label in range(machine.labels):
            lists = [labels for labels in lists_of(machine, many) if labels[-1] == label]
            row.append(least(cost_with(below, fine, labels, len(moves_without(machine, part, labels)))
                             for labels in lists))
        rows.append(row)
    return rows


def ends_by_all(machine, tree, prices, fine):
    """The second list of the root."""
    lists = lists_of(machine, len(prices))
    return [least(cost_with(prices, fine, labels, len(against(machine, tree, labels)))
                  for labels in lists if labels[-1] == label) for label in range(machine.labels)]


def ring_numbers_by_all(machine, ring, prices, fine):
    """The numbers of point [11], each as the least cost of the people from the second one up to one."""
    told = []
    for first in range(machine.labels):
        rows = []
        for at in range(len(ring)):
            lists = [labels for labels in lists_of(machine, at + 1) if labels[0] == first]
            rows.append([least(ring_part_cost(machine, ring, prices, fine, labels)
                               for labels in lists if labels[-1] == label) for label in range(machine.labels)])
        told.append(rows)
    return told


def ring_part_cost(machine, ring, prices, fine, labels):
    objections = 0
    for at in range(1, len(labels)):
        objections += (ring[at], (labels[at - 1],), labels[at]) not in machine.moves
    return cost_with(prices[1:], fine, labels[1:], objections)


class Dice:
    """Numbers that look thrown and are the same in each run."""

    def __init__(self, seed):
        self.state = seed

    def below(self, many):
        self.state = (self.state * 6364136223846793005 + 1442695040888963407) % 2 ** 64
        return (self.state >> 33) % many


def any_machine(dice, letters, labels, of_ten):
    """A machine that has each move in so many of ten cases."""
    moves = [(letter, children, label) for letter in range(letters) for many in range(3)
             for children in itertools.product(range(labels), repeat=many) for label in range(labels)
             if dice.below(10) < of_ten]
    return Machine(letters, labels, moves, [label for label in range(labels) if dice.below(2)])


def any_tree(dice, letters, many):
    """A tree of so many people."""
    letter = dice.below(letters)
    if many == 1:
        return (letter, ())
    if many == 2 or dice.below(3) == 0:
        return (letter, (any_tree(dice, letters, many - 1),))
    first = 1 + dice.below(many - 2)
    return (letter, (any_tree(dice, letters, first), any_tree(dice, letters, many - 1 - first)))


def any_prices(dice, many, labels, highest):
    return [[dice.below(highest + 1) for _ in range(labels)] for _ in range(many)]


def as_tuples(rows):
    """What is in lists, in tuples."""
    return tuple(as_tuples(row) for row in rows) if isinstance(rows, (list, tuple)) else rows


def as_lists(rows):
    """What is in tuples, in lists."""
    return [as_lists(row) for row in rows] if isinstance(rows, (list, tuple)) else rows


def comb(letters):
    """A tree with two children at a node, of as many people as letters, an odd number: each first child goes on."""
    tree = (letters[0], ())
    for at in range(1, len(letters), 2):
        tree = (letters[at + 1], (tree, (letters[at], ())))
    return tree


def set_at(machine, tree):
    """The set of labels of a tree by point [14]."""
    sides = [set_at(machine, child) for child in tree[1]]
    return {label for letter, children, label in machine.moves
            if letter == tree[0] and len(children) == len(sides)
            and all(child in side for child, side in zip(children, sides))}


def wished(machine, tree):
    return any(label in machine.ends for label in set_at(machine, tree))


def trees_of(letters, many):
    """All trees of just so many people."""
    if many == 1:
        return [(letter, ()) for letter in range(letters)]
    below = [(child,) for child in trees_of(letters, many - 1)]
    for first in range(1, many - 1):
        below += itertools.product(trees_of(letters, first), trees_of(letters, many - 1 - first))
    return [(letter, children) for letter in range(letters) for children in below]


def trees_up_to(letters, many):
    """All trees of at most so many people, those of fewer people first."""
    return [tree for people in range(1, many + 1) for tree in trees_of(letters, people)]


def rows_up_to(letters, many):
    return [list(row) for people in range(1, many + 1) for row in itertools.product(range(letters), repeat=people)]


def size(tree, known=None):
    """The number of people of a tree, also of one of very many people that has few parts that differ."""
    known = {} if known is None else known
    if id(tree) not in known:
        known[id(tree)] = 1 + sum(size(child, known) for child in tree[1])
    return known[id(tree)]


def filled_with(context, tree):
    """A context filled with a tree."""
    if context == (None, ()):
        return tree
    return (context[0], tuple(filled_with(child, tree) for child in context[1]))


def is_web(machine, web):
    """Whether a list of pairs is a web by point [17]."""
    wishes = [[wished(machine, filled_with(context, tree)) for _, tree in web] for context, _ in web]
    numbers = range(len(web))
    return (all(wishes[at][at] for at in numbers)
            and not any(wishes[one][other] and wishes[other][one] for one in numbers for other in range(one)))


def renamed(machine, names):
    """A machine with another label for each one."""
    moves = [(letter, [names[child] for child in children], names[label])
             for letter, children, label in machine.moves]
    return Machine(machine.letters, machine.labels, moves, [names[label] for label in machine.ends])


def sparse_machine(dice, letters, labels, many):
    """A machine with about so many moves, and at least one end."""
    moves = [(letter, (), dice.below(labels)) for letter in range(letters)]
    for _ in range(many):
        children = [dice.below(labels) for _ in range(dice.below(3))]
        moves.append((dice.below(letters), children, dice.below(labels)))
    ends = [label for label in range(labels) if dice.below(3) == 0]
    return Machine(letters, labels, moves, ends or [dice.below(labels)])


def pairs_of_sets(one, two, most):
    """For each pair of sets of labels that trees have, the least number of people; None for more than so many pairs.

    All pairs are put together again and again, until nothing changes.
    """
    sizes = {}
    changed = True
    while changed:
        changed = False
        known = list(sizes.items())
        for letter in range(one.letters):
            for below in [(), *itertools.product(known), *itertools.product(known, known)]:
                pair = tuple(lead(machine, letter, [sets[at] for sets, _ in below])
                             for at, machine in enumerate([one, two]))
                many = 1 + sum(people for _, people in below)
                if many < sizes.get(pair, many + 1):
                    sizes[pair] = many
                    changed = True
            if len(sizes) > most:
                return None
    return sizes


def lead(machine, letter, sides):
    return frozenset(label for told, children, label in machine.moves if told == letter and len(children) == len(sides)
                     and all(child in side for child, side in zip(children, sides)))


def least_unlike(one, two, sizes):
    """The least number of people of a tree that just one of two machines wishes, or None."""
    return min((many for (mine, its), many in sizes.items()
                if bool(mine & set(one.ends)) != bool(its & set(two.ends))), default=None)
