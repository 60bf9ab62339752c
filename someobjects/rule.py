"""Rules for rows by which each one looks at both neighbours, and the machines that wish the same rows."""

from someobjects.errors import BadRule, TooLarge
from someobjects.machine import MOST_LABELS, Machine

MOST_RULE_LETTERS = 3
MOST_RULE_LABELS = 4


class Rule:
    """A rule: its numbers of letters and labels, and what it lets."""

    def __init__(self, letters, labels, lets):
        check_rule(letters, labels, lets)
        self.letters = letters
        self.labels = labels
        kept = {tuple(let): True for let in lets}
        self.lets = tuple(sorted(kept, key=order_of))

    def __eq__(self, other):
        return (isinstance(other, Rule) and self.letters == other.letters and self.labels == other.labels
                and self.lets == other.lets)


def order_of(let):
    """What stands in for a let where lets are put in order: None cannot be compared with labels."""
    return [-1 if told is None else told for told in let]


def check_rule(letters, labels, lets):
    """Raises BadRule with the first part that is wrong."""
    if not 1 <= letters <= MOST_RULE_LETTERS:
        raise BadRule("letters")
    if not 1 <= labels <= MOST_RULE_LABELS:
        raise BadRule("labels")
    for before, letter, label, behind in lets:
        if not is_one_of(letter, letters) or not is_one_of(label, labels):
            raise BadRule("lets")
        for neighbour in [before, behind]:
            if neighbour is not None and not is_one_of(neighbour, labels):
                raise BadRule("lets")


def is_one_of(told, many):
    """Whether a letter or a label is one of so many; None is not."""
    return told is not None and 0 <= told < many


def rule_objectors(rule, row, labels):
    """The numbers of the people of a row that object, ascending."""
    known = {let: True for let in rule.lets}
    shown = [None, *labels, None]
    told = []
    for at, letter in enumerate(row):
        before, label, behind = shown[at:at + 3]
        if (before, letter, label, behind) not in known:
            told.append(at)
    return told


def rule_wishes(rule, row):
    """Whether there are labels for a row by which nobody objects."""
    # A pair of the label of the one before and the own label, for each way to go on without objection.
    due = {(None, label): True for label in range(rule.labels)}
    for letter in row[:-1]:
        due = {pair: True for pair in pairs_behind(rule, letter, due)}
    return any([behind is None for _, behind in pairs_behind(rule, row[-1], due)])


def pairs_behind(rule, letter, due):
    """The pairs of a person's label and the one behind that are let for a letter, if one of the due pairs is there."""
    return [(label, behind) for before, told, label, behind in rule.lets if told == letter and (before, label) in due]


def machine_of_rule(rule):
    """The machine that wishes the same rows as a rule: its labels are pairs of a label and the one behind."""
    pairs = {}
    for _, _, label, behind in rule.lets:
        pairs.setdefault((label, behind), len(pairs))
    if len(pairs) > MOST_LABELS:
        raise TooLarge("labels")
    moves = []
    for before, letter, label, behind in rule.lets:
        if before is None:
            moves.append((letter, (), pairs[(label, behind)]))
        elif (before, label) in pairs:
            moves.append((letter, (pairs[(before, label)],), pairs[(label, behind)]))
    ends = [place for (_, behind), place in pairs.items() if behind is None]
    # A machine has at least one label, even if a rule lets nothing.
    return Machine(rule.letters, max(1, len(pairs)), moves, ends)


def rule_of_machine(machine):
    """The rule that wishes the same rows, of the machine's letters, as a machine."""
    if machine.letters > MOST_RULE_LETTERS:
        raise TooLarge("letters")
    if machine.labels > MOST_RULE_LABELS:
        raise TooLarge("labels")
    lets = []
    for letter, children, label in machine.moves:
        # In a row nobody has two children.
        if len(children) < 2:
            before = children[0] if children else None
            lets.extend([(before, letter, label, behind) for behind in range(machine.labels)])
            if label in machine.ends:
                lets.append((before, letter, label, None))
    return Rule(machine.letters, machine.labels, lets)
