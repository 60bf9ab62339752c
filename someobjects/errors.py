"""The errors that the program raises."""


class ObjectError(ValueError):
    """The base class of all errors that the program raises."""


class BadText(ObjectError):
    """A text that writes no machine or tree; `at` is the index of the word."""

    def __init__(self, at):
        super().__init__(f"the text does not go on like this at word {at}")
        self.at = at


class BadPaper(ObjectError):
    """Lines that write nothing that is found; `at` is the index of the line."""

    def __init__(self, at):
        super().__init__(f"the paper does not go on like this at line {at}")
        self.at = at


class BadMachine(ObjectError):
    """A machine that there is not; `what` is the part that is wrong."""

    def __init__(self, what):
        super().__init__(f"a machine cannot have these {what}")
        self.what = what


class BadRule(ObjectError):
    """A rule that there is not; `what` is the part that is wrong."""

    def __init__(self, what):
        super().__init__(f"a rule cannot have these {what}")
        self.what = what


class TooLarge(ObjectError):
    """A refusal; `what` is what there would be too many of."""

    def __init__(self, what):
        super().__init__(f"too many {what}")
        self.what = what
