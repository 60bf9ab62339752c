"""Machines, and the texts that write them."""

from someobjects.errors import BadMachine
from someobjects.trees import MOST_CHILDREN
from someobjects.words import Words

MOST_LETTERS = 4
MOST_LABELS = 8


class Machine:
    """A machine: its numbers of letters and labels, its moves and its ends."""

    def __init__(self, letters, labels, moves, ends):
        check_parts(letters, labels, moves, ends)
        self.letters = letters
        self.labels = labels
        self.moves = tuple(sorted({(letter, tuple(children), label) for letter, children, label in moves}))
        self.ends = tuple(sorted(set(ends)))

    def __eq__(self, other):
        return (isinstance(other, Machine) and self.letters == other.letters and self.labels == other.labels
                and self.moves == other.moves and self.ends == other.ends)


def check_parts(letters, labels, moves, ends):
    """Raises BadMachine with the first part that is wrong."""
    if not 1 <= letters <= MOST_LETTERS:
        raise BadMachine("letters")
    if not 1 <= labels <= MOST_LABELS:
        raise BadMachine("labels")
    for letter, children, label in moves:
        if not move_fits(letters, labels, letter, children, label):
            raise BadMachine("moves")
    for label in ends:
        if not 0 <= label < labels:
            raise BadMachine("ends")


def move_fits(letters, labels, letter, children, label):
    """Whether a move has few enough children, and a letter and labels that there are."""
    if not 0 <= letter < letters or len(children) > MOST_CHILDREN:
        return False
    return all([0 <= told < labels for told in [*children, label]])


def read_machine(text):
    """The machine that a text writes."""
    words = Words(text)
    words.take(["letters"])
    letters = words.number(1, MOST_LETTERS)
    words.take(["labels"])
    labels = words.number(1, MOST_LABELS)
    moves = []
    while words.ahead() == "move":
        moves.append(read_move(words, letters, labels))
    ends = []
    while words.ahead() == "end":
        ends.append(read_end(words, labels))
    words.finish()
    return Machine(letters, labels, moves, ends)


def read_move(words, letters, labels):
    """The move that the next words write."""
    words.take(["move"])
    letter = words.number(0, letters - 1)
    many = words.number(0, MOST_CHILDREN)
    children = []
    for _ in range(many):
        children.append(words.number(0, labels - 1))
    words.take(["to"])
    return letter, children, words.number(0, labels - 1)


def read_end(words, labels):
    """The end that the next words write."""
    words.take(["end"])
    return words.number(0, labels - 1)


def machine_text(machine):
    """The text of a machine."""
    words = [f"letters {machine.letters} labels {machine.labels}"]
    for letter, children, label in machine.moves:
        words.extend(["move", str(letter), str(len(children))])
        words.extend([str(child) for child in children])
        words.extend(["to", str(label)])
    for label in machine.ends:
        words.extend(["end", str(label)])
    return " ".join(words)
