"""The paper of what is found: its lines, written and read."""

from someobjects.errors import BadPaper
from someobjects.least import Found

MOST_DIGITS = 9
DIGITS = "0123456789"


def paper_lines(found):
    """The list of the lines of a Found."""
    lines = ["none"]
    if found.kind == "best":
        lines = [f"best {written(found.cost)}", row_line(found.labels)]
    if found.ends:
        rows = [*found.numbers, found.ends]
    else:
        # Without a second list of the root it is a ring, with rows for each label of the first person.
        rows = [row for run in found.numbers for row in run]
    return lines + [row_line(row) for row in rows]


def row_line(row):
    """The line of a list of numbers, of which each may be None."""
    return " ".join([written(number) for number in row])


def written(number):
    """The word of a number or of None."""
    return "-" if number is None else str(number)


def read_paper(count, labels, lines):
    """The Found that lines write, for a tree of so many people and a machine of so many labels."""
    rest = Lines(lines)
    kind, cost, told = rest.head(count, labels)
    numbers = rest.rows(count, labels)
    ends = rest.row(labels)
    rest.finish()
    return Found(kind, cost, told, numbers, ends)


def read_ring_paper(count, labels, lines):
    """The Found that lines write, for a ring of so many people and a machine of so many labels."""
    rest = Lines(lines)
    kind, cost, told = rest.head(count, labels)
    numbers = [rest.rows(count, labels) for _ in range(labels)]
    rest.finish()
    return Found(kind, cost, told, numbers, [])


class Lines:
    """The lines of a paper, and the index of the one that is read next.

    What is read is asked for in the order of the lines, so the first line that
    is refused is the first wrong one, or the one that is missing at the end.
    """

    def __init__(self, lines):
        self.lines = lines
        self.at = 0

    def take(self):
        """The words of the next line, which has to be there."""
        self.need(self.at < len(self.lines))
        return self.lines[self.at].split(" ")

    def need(self, holds):
        """Refuses the next line if something does not hold."""
        if not holds:
            raise BadPaper(self.at)

    def head(self, count, labels):
        """Kind, cost and labels, which the next line or the next two ones write."""
        words = self.take()
        if words == ["none"]:
            self.at += 1
            return "none", None, []
        self.need(len(words) == 2 and words[0] == "best" and is_number(words[1]))
        self.at += 1
        return "best", int(words[1]), self.labels_told(count, labels)

    def labels_told(self, count, labels):
        """The labels of people that the next line writes."""
        words = self.take()
        self.need(len(words) == count and all([is_number(word) and int(word) < labels for word in words]))
        self.at += 1
        return [int(word) for word in words]

    def rows(self, count, labels):
        """So many lists of numbers, one on each of the next lines."""
        return [self.row(labels) for _ in range(count)]

    def row(self, labels):
        """The list of so many numbers, of which each may be None, that the next line writes."""
        words = self.take()
        self.need(len(words) == labels and all([word == "-" or is_number(word) for word in words]))
        self.at += 1
        return [None if word == "-" else int(word) for word in words]

    def finish(self):
        """Sees to it that no line is left."""
        self.need(self.at == len(self.lines))


def is_number(word):
    """Whether a word is a number of few enough digits, without a leading zero."""
    if not 1 <= len(word) <= MOST_DIGITS or not all([sign in DIGITS for sign in word]):
        return False
    return word == "0" or word[0] != "0"
