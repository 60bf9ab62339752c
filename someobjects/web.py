"""Labels that a wish needs: machines without useless ones, and webs, which show how many there must be at least.

A context fits the labels that, at the hole, lead to an end at the root. So a
context filled with a tree is wished if it fits some label of the tree's set.
Sets of labels are numbers, as in someobjects.join.
"""

from someobjects.join import Ways, least_trees, set_of
from someobjects.machine import Machine
from someobjects.trees import filled, people_of

HOLE = (None, ())
# There may be thousands of choices for a web; few of them for each label are gone through quickly.
MOST_TO_CHOOSE = 8


def trimmed(machine):
    """The machine of the useful labels, which wishes the same trees."""
    kept = useful_labels(machine)
    if not kept:
        return Machine(machine.letters, 1, [], [])
    places = {label: place for place, label in enumerate(kept)}
    moves = []
    for letter, children, label in machine.moves:
        if all([told in places for told in [*children, label]]):
            moves.append((letter, [places[child] for child in children], places[label]))
    ends = [places[label] for label in machine.ends if label in places]
    return Machine(machine.letters, len(kept), moves, ends)


def useful_labels(machine):
    """The labels that some tree that is wished can have, ascending."""
    had = had_labels(machine)
    kept = {label: True for label in machine.ends if label in had}
    # Each round finds a label more, or there are no more.
    for _ in range(machine.labels):
        for _, children, label in machine.moves:
            if label in kept and all([child in had for child in children]):
                kept.update({child: True for child in children})
    return sorted(kept)


def had_labels(machine):
    """The labels that the root of some tree can have, where ends are not asked for, as keys of a dict."""
    had = {}
    for _ in range(machine.labels):
        for _, children, label in machine.moves:
            if all([child in had for child in children]):
                had[label] = True
    return had


def web_holds(machine, web):
    """Whether a list of pairs of a context and a tree is a web for a machine."""
    ways = Ways(machine.moves)
    pairs = []
    for context, tree in web:
        if people_of(context).count(HOLE) != 1:
            return False
        pairs.append((fitting(machine, ways, context), set_at_root(ways, tree, 0)))
    for at, pair in enumerate(pairs):
        if not pair[0] & pair[1] or not all([stand_apart(pair, other) for other in pairs[:at]]):
            return False
    return True


def stand_apart(one, other):
    """Whether two pairs may stand in one web; each is a pair of what its context fits and the set of its tree."""
    return not (one[0] & other[1] and other[0] & one[1])


def fitting(machine, ways, context):
    """The set of the labels that a context fits."""
    ends = set_of(machine.ends)
    return set_of([label for label in range(machine.labels) if set_at_root(ways, context, 1 << label) & ends])


def set_at_root(ways, tree, hole):
    """The set of a tree, or of a context if what stands in its hole has a set."""
    sets = []
    for letter, children in people_of(tree):
        if (letter, children) == HOLE:
            sets.append(hole)
        else:
            sets.append(ways.to(letter, tuple([sets[child] for child in children])))
    return sets[-1]


def web_of(machine):
    """A web for a machine: of the pairs of a context and a tree that there are to choose from, what fits together."""
    kept = trimmed(machine)
    ways = Ways(kept.moves)
    # A least tree with a label has no label twice on the way from the root to a leaf, so it has fewer people than this.
    most = 1 << kept.labels
    trees = {told: tree for told, (many, tree) in least_trees(ways, kept.letters, most).items() if many < most}
    contexts = contexts_of(kept, levels_of(kept, ways, trees))
    web = widest(choices_of(kept.labels, contexts, trees))
    return [(context_of(contexts[fits]), trees[told]) for fits, told in web]


def levels_of(machine, ways, trees):
    """Contexts in which the hole is a child of the root.

    Each has as its key, for each label at the hole, the set that the root can have; there is one for each key.
    """
    levels = {}
    belows = [(None,)]
    for told in trees:
        belows.extend([(None, told), (told, None)])
    for below in belows:
        children = tuple([HOLE if told is None else trees[told] for told in below])
        for letter in range(machine.letters):
            key = tuple([ways.to(letter, with_hole(below, 1 << label)) for label in range(machine.labels)])
            levels.setdefault(key, (letter, children))
    return levels


def with_hole(below, hole):
    """The sets of children of which one, told as None, has the set of the hole."""
    return tuple([hole if told is None else told for told in below])


def contexts_of(machine, levels):
    """For each set that a context fits the levels of which it is built, the innermost one first.

    A context that fits a label, with the fewest levels, has no label twice on the way from the root to the hole, so
    deeper ones are left out.
    """
    found = {set_of(machine.ends): []}
    newest = list(found)
    for _ in range(1, machine.labels):
        behind = []
        for fits in newest:
            for key, level in levels.items():
                told = set_of([label for label, to in enumerate(key) if to & fits])
                if told not in found:
                    found[told] = [level, *found[fits]]
                    behind.append(told)
        newest = behind
    return found


def context_of(levels):
    """The context that is built of levels."""
    context = HOLE
    for level in levels:
        context = filled(level, context)
    return context


def choices_of(many, contexts, trees):
    """Pairs of what a context fits and the set of a tree, of which both have a label, and as few others as possible.

    A web stays one if its pairs are exchanged for such ones: sets that have less have less in common with others.
    """
    choices = {}
    for label in range(many):
        for fits in least_sets(contexts, label)[:MOST_TO_CHOOSE]:
            for told in least_sets(trees, label)[:MOST_TO_CHOOSE]:
                choices[(fits, told)] = True
    return list(choices)


def least_sets(sets, label):
    """The sets with a label that contain no other one with it."""
    having = [told for told in sets if told >> label & 1]
    return [told for told in having if not any([part != told and part & told == part for part in having])]


def widest(choices):
    """The largest of the webs that come about by taking, from one choice on and around, each one that stands apart."""
    best = []
    for at in range(len(choices)):
        web = []
        for pair in choices[at:] + choices[:at]:
            if all([stand_apart(pair, other) for other in web]):
                web.append(pair)
        if len(web) > len(best):
            best = web
    return best
