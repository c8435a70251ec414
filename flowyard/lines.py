"""Lines of words, as written forms and commands have them."""

from flowyard.basics import is_text
from flowyard.errors import InvalidLines


class Lines:
    """Whole lines that are read one behind another, each as a list of its words."""

    def __init__(self, lines):
        if not isinstance(lines, str):
            raise InvalidLines(0)
        self._rows = lines.split("\n")
        self.number = 1

    def words(self):
        """The words of the next line; [] if it is lacking, or its line feed is."""
        # What stands behind the last line feed is no whole line.
        if self.number >= len(self._rows):
            return []
        return self._rows[self.number - 1].split(" ")

    def go_on(self):
        self.number += 1

    def check_end(self):
        """InvalidLines unless all has been read."""
        if self.number < len(self._rows) or self._rows[-1] != "":
            raise InvalidLines(self.number)


def written_text(text):
    if text == "":
        return "-"
    return text


def text_of(word):
    """The text that the word tells; None if it tells none."""
    if word == "-":
        return ""
    if word == "" or not is_text(word):
        return None
    return word


def count_of(word):
    """The COUNT that the word tells; None if it tells none."""
    if word == "" or word.strip("0123456789") != "" or word[0] == "0" and word != "0":
        return None
    return int(word)


def texts_of(words):
    """The tuple of the texts that the words tell; None if one tells none."""
    texts = tuple([text_of(word) for word in words])
    if None in texts:
        return None
    return texts


def counts_of(words):
    counts = tuple([count_of(word) for word in words])
    if None in counts:
        return None
    return counts
