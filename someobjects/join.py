"""Machines put together, and a least tree that just one of two machines wishes.

A set of labels is kept as a number to which the label L adds 1 << L. The set
of a tree has the labels that its root can have with nobody objecting, where
ends are not asked for; so it follows from the letter of the root and the sets
of its children.
"""

from heapq import heappop, heappush

from someobjects.errors import BadMachine, TooLarge
from someobjects.machine import MOST_LABELS, Machine

MOST_SETS = 60


def both(one, other):
    """The machine that wishes the trees that both machines wish."""
    check_letters(one, other)
    check_labels(one.labels * other.labels)
    moves = []
    for letter, children, label in one.moves:
        for its_letter, its_children, its_label in other.moves:
            if letter == its_letter and len(children) == len(its_children):
                below = [mine * other.labels + its for mine, its in zip(children, its_children)]
                moves.append((letter, below, label * other.labels + its_label))
    ends = [mine * other.labels + its for mine in one.ends for its in other.ends]
    return Machine(one.letters, one.labels * other.labels, moves, ends)


def either(one, other):
    """The machine that wishes the trees that at least one of two machines wishes."""
    check_letters(one, other)
    check_labels(one.labels + other.labels)
    ends = list(one.ends) + [one.labels + label for label in other.ends]
    return Machine(one.letters, one.labels + other.labels, moves_side_by_side(one, other), ends)


def moves_side_by_side(one, other):
    """The moves of two machines, where the labels of the second one stand behind those of the first one."""
    by = one.labels
    moves = list(one.moves)
    for letter, children, label in other.moves:
        moves.append((letter, tuple([by + child for child in children]), by + label))
    return moves


def check_letters(one, other):
    """Raises BadMachine if two machines have unlike numbers of letters."""
    if one.letters != other.letters:
        raise BadMachine("letters")


def check_labels(many):
    """Raises TooLarge if no machine has so many labels."""
    if many > MOST_LABELS:
        raise TooLarge("labels")


def other(machine):
    """The machine that wishes the trees, of its letters, that a machine does not wish."""
    ways = Ways(machine.moves)
    sets = list(least_trees(ways, machine.letters, MOST_LABELS))
    check_labels(len(sets))
    ordered = sorted([(labels_in(told, machine.labels), told) for told in sets])
    places = {told: place for place, (_, told) in enumerate(ordered)}
    belows = [()] + [(told,) for told in sets] + [(first, second) for first in sets for second in sets]
    moves = []
    for letter in range(machine.letters):
        for below in belows:
            moves.append((letter, [places[told] for told in below], places[ways.to(letter, below)]))
    ends = [places[told] for told in sets if not told & set_of(machine.ends)]
    return Machine(machine.letters, len(sets), moves, ends)


def difference(one, other):
    """A tree with the fewest people that just one of two machines wishes, or None."""
    ways = Ways(moves_side_by_side(one, other))
    # The sets of labels of both machines side by side are the pairs of sets of labels.
    trees = least_trees(ways, max(one.letters, other.letters), MOST_SETS)
    if len(trees) > MOST_SETS:
        raise TooLarge("sets")
    mine = set_of(one.ends)
    its = set_of([one.labels + label for label in other.ends])
    for told, (_, tree) in trees.items():
        if bool(told & mine) != bool(told & its):
            return tree
    return None


def set_of(labels):
    """The set of the labels of a list, in which each stands once."""
    return sum([1 << label for label in labels])


def labels_in(told, many):
    """The list of the labels of a set, ascending, of so many labels."""
    return [label for label in range(many) if told >> label & 1]


class Ways:
    """The moves of a machine over sets of labels."""

    def __init__(self, moves):
        self.whole = {}
        self.begun = {}
        for letter, children, label in moves:
            ways = self.whole.setdefault((letter, len(children)), {})
            ways[children] = ways.get(children, 0) | 1 << label

    def to(self, letter, below):
        """The set of labels to which the moves of a letter lead from children with these sets."""
        many = len(below)
        if many == 0:
            return self.whole.get((letter, 0), {}).get((), 0)
        # The same first child is asked for beside many second ones.
        start = (letter, many, below[0])
        if start not in self.begun:
            self.begun[start] = ways_left(self.whole.get((letter, many), {}), below[0])
        left = self.begun[start]
        for told in below[1:]:
            left = ways_left(left, told)
        return left.get((), 0)


def ways_left(ways, told):
    """What is left of ways when the first child has a set: for the labels of the other ones, the set they lead to."""
    left = {}
    for labels, to in ways.items():
        if told >> labels[0] & 1:
            left[labels[1:]] = left.get(labels[1:], 0) | to
    return left


def least_trees(ways, letters, most):
    """For each set of labels that trees have, how many people a least tree with this set has, and such a tree.

    The sets stand in ascending order of these numbers. If there are more than so many sets, it stops at one more.
    """
    found = {}
    queue = []
    for letter in range(letters):
        heappush(queue, (1, letter, (), ways.to(letter, ())))
    # Whatever is taken next has the fewest people of all trees whose set has not been found.
    while queue and len(found) <= most:
        many, letter, below, told = heappop(queue)
        if told not in found:
            # A tree of very many people has few parts that differ, so they are shared and not copied.
            found[told] = (many, (letter, tuple([found[part][1] for part in below])))
            for parent in parents_of(ways, letters, found, told):
                heappush(queue, parent)
    return found


def parents_of(ways, letters, found, told):
    """The entries for the queue of the trees in which the root has a child with a set just found, and no other new one.

    Trees whose own set has been found are left out.
    """
    belows = [(told,), (told, told)]
    for part in found:
        if part != told:
            belows.extend([(told, part), (part, told)])
    entries = []
    for below in belows:
        many = 1 + sum([found[part][0] for part in below])
        for letter in range(letters):
            to = ways.to(letter, below)
            if to not in found:
                entries.append((many, letter, below, to))
    return entries
