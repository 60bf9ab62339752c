"""Labels of least cost for a tree, and the numbers that show that there are none of less.

The people are gone through in order. So the numbers of children stand ready
when their parent is reckoned, and so does the order in which the lists of
labels for the people below it stand, from which the first ones are taken.
"""

from someobjects.seen import known_moves, objectors
from someobjects.trees import people_of


class Found:
    """What is found: labels of least cost, or that there are none, and the numbers that show it."""

    def __init__(self, kind, cost, labels, numbers, ends):
        self.kind = kind
        self.cost = cost
        self.labels = copied(labels)
        self.numbers = copied(numbers)
        self.ends = copied(ends)

    def __eq__(self, other):
        return (isinstance(other, Found) and self.kind == other.kind and self.cost == other.cost
                and self.labels == other.labels and self.numbers == other.numbers and self.ends == other.ends)


def copied(rows):
    """A list of what is in a list or a tuple, and likewise for each of these that stands in it."""
    return [copied(row) if isinstance(row, (list, tuple)) else row for row in rows]


class Stand:
    """What is reckoned for one person.

    `numbers` has its number for each label, and `below` the labels of its
    children with which it first comes about, or None. `order` has the labels
    that have a number, in the order of the first ones of the best lists of
    labels up to this person that end with them.
    """

    def __init__(self, sides, choices):
        self.numbers = [None if choice is None else choice[0] for choice in choices]
        self.below = [None if choice is None else sides[choice[1]][0] for choice in choices]
        places = [(choice[1], label) for label, choice in enumerate(choices) if choice is not None]
        self.order = [label for _, label in sorted(places)]


def best(machine, tree, prices, fine):
    """The Found of a tree: labels of least cost, and the numbers."""
    people = people_of(tree)
    stands = []
    moves = known_moves(machine)
    for at in range(len(people)):
        stands.append(stand_of(moves, people[at], stands, prices[at], fine))
    root = stand_of(moves_to_ends(machine), people[-1], stands, prices[-1], fine)
    numbers = [stand.numbers for stand in stands]
    least = least_of(root.numbers)
    if least is None:
        return Found("none", None, [], numbers, root.numbers)
    stands[-1] = root
    label = [told for told in root.order if root.numbers[told] == least][0]
    return Found("best", least, labels_of(people, stands, label), numbers, root.numbers)


def moves_to_ends(machine):
    """The moves by which the root does not object: for one that leads to no end it objects as if there were none."""
    return {move: True for move in machine.moves if move[2] in machine.ends}


def stand_of(moves, person, stands, prices, fine):
    """The Stand of a person, of those of the people ahead of it."""
    letter, children = person
    sides = sides_of([(stands[child].numbers, stands[child].order) for child in children])
    return Stand(sides, choices_of(moves, letter, sides, prices, fine))


def sides_of(below):
    """The labels that all children of a person can have, in pairs with the sum of their numbers.

    `below` has for each child its numbers and its order; these give the order of the pairs.
    """
    sides = [((), 0)]
    for numbers, order in below:
        sides = [((*labels, label), cost + numbers[label]) for labels, cost in sides for label in order]
    return sides


def choices_of(moves, letter, sides, prices, fine):
    """For each label of a person its choice among the sides."""
    return [choice_of(moves, letter, label, sides, price, fine) for label, price in enumerate(prices)]


def choice_of(moves, letter, label, sides, price, fine):
    """The number of a person with a label, with the first place among the sides that gives it, or None."""
    costs = []
    for place, (labels, cost) in enumerate(sides):
        if (letter, labels, label) in moves:
            costs.append((cost + price, place))
        elif fine is not None:
            costs.append((cost + price + fine, place))
    return min(costs, default=None)


def least_of(numbers):
    """The least number that is not None, or None."""
    return min([number for number in numbers if number is not None], default=None)


def labels_of(people, stands, last):
    """The first ones of the best lists of labels in which the last person has a label."""
    labels = [last] * len(people)
    for at in reversed(range(len(people))):
        children = people[at][1]
        for child, label in zip(children, stands[at].below[labels[at]]):
            labels[child] = label
    return labels


def judge(machine, tree, prices, fine, found):
    """Whether what is found for a tree holds."""
    people = people_of(tree)
    rows = found.numbers
    if len(rows) != len(people) or not numbers_hold(machine, people, prices, fine, rows, 0):
        return False
    ends = row_of(moves_to_ends(machine), people[-1], rows, prices[-1], fine)
    if found.ends != ends:
        return False
    cost = None
    if labels_fit(machine, len(people), found.labels):
        cost = cost_of(prices, fine, found.labels, len(objectors(machine, tree, found.labels)))
    return end_holds(found, least_of(ends), cost)


def numbers_hold(machine, people, prices, fine, rows, begin):
    """Whether the numbers of the people from one on follow, each row from the rows of the children."""
    moves = known_moves(machine)
    for at in range(begin, len(people)):
        # Children come before their parent, so a row that others are reckoned from has been found right.
        if rows[at] != row_of(moves, people[at], rows, prices[at], fine):
            return False
    return True


def row_of(moves, person, rows, prices, fine):
    """The numbers of a person for each label, from the rows of the children."""
    letter, children = person
    sides = sides_of([(rows[child], with_number(rows[child])) for child in children])
    choices = choices_of(moves, letter, sides, prices, fine)
    return [None if choice is None else choice[0] for choice in choices]


def with_number(row):
    """The labels that have a number in a row."""
    return [label for label, number in enumerate(row) if number is not None]


def labels_fit(machine, many, labels):
    """Whether labels are as many as people, and labels of the machine."""
    return len(labels) == many and all([0 <= label < machine.labels for label in labels])


def cost_of(prices, fine, labels, objections):
    """What labels cost by which so many people object, or None if nobody may."""
    cost = sum([own[label] for own, label in zip(prices, labels)])
    if objections == 0:
        return cost
    return None if fine is None else cost + objections * fine


def end_holds(found, least, cost):
    """Whether kind, cost and labels hold, by the least cost and the cost of the labels; either may be None."""
    if least is None:
        return found.kind == "none" and found.cost is None and found.labels == []
    return found.kind == "best" and found.cost == least and cost == least


def fewest_objections(machine, tree):
    """The Found of a tree if each objection costs 1 and nothing else costs anything."""
    prices = [[0] * machine.labels for _ in people_of(tree)]
    return best(machine, tree, prices, 1)


def after_change(machine, tree, old):
    """The Found of a tree if nobody may object and each label that is unlike the old one costs 1."""
    prices = [[0 if label == kept else 1 for label in range(machine.labels)] for kept in old]
    return best(machine, tree, prices, None)
