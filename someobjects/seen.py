"""What people see of their neighbours: who objects, and whether there are labels by which nobody does."""

from someobjects.trees import people_of


def objectors(machine, tree, labels):
    """The numbers of the people of a tree that object, ascending."""
    people = people_of(tree)
    told = without_move(machine, people, labels)
    root = len(people) - 1
    if labels[root] not in machine.ends and root not in told:
        told.append(root)
    return told


def ring_objectors(machine, ring, labels):
    """The numbers of the people of a ring that object, ascending."""
    # The one before the first one has the number -1, which as an index is the last one.
    return without_move(machine, [(letter, (at - 1,)) for at, letter in enumerate(ring)], labels)


def without_move(machine, people, labels):
    """The numbers of the people whose letter, labels of their children, and own label are no move."""
    moves = known_moves(machine)
    told = []
    for at, (letter, children) in enumerate(people):
        below = tuple([labels[child] for child in children])
        if (letter, below, labels[at]) not in moves:
            told.append(at)
    return told


def known_moves(machine):
    """The moves of a machine as the keys of a dict, which are found without going through all."""
    return {move: True for move in machine.moves}


def wishes(machine, tree):
    """Whether there are labels for a tree by which nobody objects."""
    moves = moves_by_place(machine)
    reach = []
    for letter, children in people_of(tree):
        reach.append(reached(moves, letter, [reach[child] for child in children]))
    return any([label in machine.ends for label in reach[-1]])


def ring_wishes(machine, ring):
    """Whether there are labels for a ring by which nobody objects."""
    moves = moves_by_place(machine)
    for first in range(machine.labels):
        reach = [first]
        for letter in ring[1:]:
            reach = reached(moves, letter, [reach])
        if first in reached(moves, ring[0], [reach]):
            return True
    return False


def reached(moves, letter, below):
    """The labels of a person that does not object, if each child has one of the labels told for it, ascending."""
    found = {}
    for labels, label in moves.get((letter, len(below)), []):
        if all([told in side for told, side in zip(labels, below)]):
            found[label] = True
    return sorted(found)


def ways(machine, tree):
    """The number of the lists of labels for a tree by which nobody objects."""
    moves = moves_by_place(machine)
    counts = []
    for letter, children in people_of(tree):
        counts.append(counted(moves, letter, [counts[child] for child in children], machine.labels))
    return sum([counts[-1][label] for label in machine.ends])


def counted(moves, letter, below, many):
    """For each label of a person the number of lists by which nobody up to it objects, of those for each child."""
    row = [0] * many
    for labels, label in moves.get((letter, len(below)), []):
        lists = 1
        for told, side in zip(labels, below):
            lists = lists * side[told]
        row[label] += lists
    return row


def moves_by_place(machine):
    """For each letter and number of children the moves with these: pairs of the labels of the children and a label."""
    places = {}
    for letter, children, label in machine.moves:
        places.setdefault((letter, len(children)), []).append((children, label))
    return places
