"""Labels of least cost for a ring.

For each label of the first person the ring is reckoned as a row, whose first
person has this label; then the first person looks at the last one.
"""

from someobjects.least import (Found, Stand, choice_of, cost_of, end_holds, labels_fit, labels_of, least_of,
                               numbers_hold, sides_of, stand_of, with_number)
from someobjects.seen import known_moves, ring_objectors
from someobjects.trees import people_of, row_tree


def best_ring(machine, ring, prices, fine):
    """The Found of a ring: labels of least cost, and the numbers."""
    people = people_of(row_tree(ring))
    moves = known_moves(machine)
    runs = [run_of(machine, people, prices, fine, first) for first in range(machine.labels)]
    numbers = [[stand.numbers for stand in stands] for stands in runs]
    closed = []
    for first, stands in enumerate(runs):
        sides = sides_of([(stands[-1].numbers, stands[-1].order)])
        choice = choice_of(moves, ring[0], first, sides, prices[0][first], fine)
        if choice is not None:
            cost, place = choice
            closed.append((cost, first, sides[place][0][0]))
    if not closed:
        return Found("none", None, [], numbers, [])
    cost, first, last = min(closed)
    return Found("best", cost, labels_of(people, runs[first], last), numbers, [])


def run_of(machine, people, prices, fine, first):
    """The stands of the people of a ring, if the first one has a label."""
    moves = known_moves(machine)
    stands = [first_stand(machine, first)]
    for at in range(1, len(people)):
        stands.append(stand_of(moves, people[at], stands, prices[at], fine))
    return stands


def first_stand(machine, first):
    """The stand of the first person with a label, without its price and its look at the last one."""
    choices = [(0, 0) if label == first else None for label in range(machine.labels)]
    return Stand(sides_of([]), choices)


def judge_ring(machine, ring, prices, fine, found):
    """Whether what is found for a ring holds."""
    runs = found.numbers
    if len(runs) != machine.labels or found.ends != []:
        return False
    for first, rows in enumerate(runs):
        if not run_holds(machine, ring, prices, fine, first, rows):
            return False
    closed = [closing(machine, ring, prices, fine, first, rows[-1]) for first, rows in enumerate(runs)]
    cost = None
    if labels_fit(machine, len(ring), found.labels):
        cost = cost_of(prices, fine, found.labels, len(ring_objectors(machine, ring, found.labels)))
    return end_holds(found, least_of(closed), cost)


def run_holds(machine, ring, prices, fine, first, rows):
    """Whether the numbers hold that are told for a label of the first person."""
    if len(rows) != len(ring) or rows[0] != first_stand(machine, first).numbers:
        return False
    return numbers_hold(machine, people_of(row_tree(ring)), prices, fine, rows, 1)


def closing(machine, ring, prices, fine, first, row):
    """The least cost of the ring if the first person has a label, from the numbers of the last one, or None."""
    sides = sides_of([(row, with_number(row))])
    choice = choice_of(known_moves(machine), ring[0], first, sides, prices[0][first], fine)
    return None if choice is None else choice[0]
