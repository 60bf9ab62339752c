"""The words of a text, taken one after the other by whoever reads it."""

from someobjects.errors import BadText


class Words:
    """The words of a text, and the index of the one that is taken next.

    Readers ask for what may stand next, so the first word that is refused
    is the one with which the words so far begin no text; where the words run
    out, this index is their number. BadText tells just these two.
    """

    def __init__(self, text):
        # The empty text has no words, but splitting it would give an empty one.
        self.words = text.split(" ") if text else []
        self.at = 0

    def ahead(self):
        """The word that is taken next, or None behind the last one."""
        if self.at == len(self.words):
            return None
        return self.words[self.at]

    def take(self, fitting):
        """Takes the next word, which has to be one of the fitting ones."""
        word = self.ahead()
        if word not in fitting:
            raise BadText(self.at)
        self.at += 1
        return word

    def number(self, low, high):
        """Takes the next word, which has to be a number from low to high, at most 9."""
        return int(self.take([str(n) for n in range(low, high + 1)]))

    def finish(self):
        """Sees to it that no word is left."""
        if self.at < len(self.words):
            raise BadText(self.at)
