"""Trees and contexts, and the texts that write them.

Trees may be as deep as they have people, so nothing here calls itself: a tree
is taken apart into the list of its nodes, and built of such a list again. A
node in the list is a pair of its letter and the number of its children, and
stands ahead of its children, as in the text of the tree, unless a function
says that it stands behind them.
"""

from someobjects.words import Words

MOST_PEOPLE = 200
MOST_CHILDREN = 2
HIGHEST_DIGIT = 9
HOLE_NODE = (None, 0)


def row_tree(row):
    """The tree of a row."""
    below = ()
    for letter in row:
        below = ((letter, below),)
    return below[0]


def people(tree):
    """The number of people of a tree."""
    return len(nodes_of(tree))


def people_of(tree):
    """The list of the people of a tree, in order: of each one its letter and the numbers of its children."""
    told = []
    roots = []
    for letter, many in nodes_from_below(tree):
        # The roots that are told last are still without a parent: they are the children of this one.
        own = len(roots) - many
        children = tuple(roots[own:])
        del roots[own:]
        roots.append(len(told))
        told.append((letter, children))
    return told


def filled(context, tree):
    """The tree that a context is when a tree stands in the place of its hole."""
    nodes = []
    for node in nodes_of(context):
        if node == HOLE_NODE:
            nodes.extend(nodes_of(tree))
        else:
            nodes.append(node)
    return tree_of(nodes)


def read_tree(text):
    """The tree or the context that a text writes."""
    words = Words(text)
    nodes = []
    # Every child that is told counts at once: its words must come, so it is a node already.
    told = 1
    while len(nodes) < told:
        node = read_node(words, HOLE_NODE not in nodes, MOST_PEOPLE - told)
        nodes.append(node)
        told += node[1]
    words.finish()
    return tree_of(nodes)


def read_node(words, may_be_hole, room):
    """The node that the next words write, with no more children than there is room for."""
    if may_be_hole and words.ahead() == "hole":
        words.take(["hole"])
        return HOLE_NODE
    letter = words.number(0, HIGHEST_DIGIT)
    return letter, words.number(0, min(MOST_CHILDREN, room))


def tree_text(tree):
    """The text of a tree or of a context."""
    words = []
    for node in nodes_of(tree):
        if node == HOLE_NODE:
            words.append("hole")
        else:
            words.extend([str(node[0]), str(node[1])])
    return " ".join(words)


def nodes_of(tree):
    """The list of the nodes of a tree or a context."""
    nodes = []
    waiting = [tree]
    while waiting:
        letter, children = waiting.pop()
        nodes.append((letter, len(children)))
        # The first child is put on top, so that it is taken first.
        waiting.extend(children[::-1])
    return nodes


def nodes_from_below(tree):
    """The list of the nodes of a tree, each behind its children, in the order in which people are numbered."""
    nodes = []
    waiting = [tree]
    while waiting:
        letter, children = waiting.pop()
        nodes.append((letter, len(children)))
        # The second child is put on top: turned around, its nodes stand behind those of the first one.
        waiting.extend(children)
    return nodes[::-1]


def tree_of(nodes):
    """The tree or the context of a list of nodes."""
    built = []
    for letter, many in reversed(nodes):
        children = []
        for _ in range(many):
            children.append(built.pop())
        built.append((letter, tuple(children)))
    return built.pop()
