"""Values as words: a text has its length ahead of it, an answer may be `-`, a list stands in brackets."""


def word_of(value):
    """A text, an answer, an integer or a tuple of texts as a word, or several words."""
    if value is None:
        return "-"
    if isinstance(value, str):
        return f"{len(value)}:{value}"
    if isinstance(value, tuple):
        return " ".join(["[", *[word_of(text) for text in value], "]"])
    return str(value)


def line_of(first, values):
    """A line of a word that stands as it is, and of values as words."""
    return " ".join([first, *[word_of(value) for value in values]])


class WordReader:
    """Reads a line of words from the left."""

    def __init__(self, line):
        self._line = line
        self._at = 0

    def is_over(self):
        """Whether no word is left."""
        return self._at >= len(self._line)

    def next_word(self):
        """The next word, as it stands."""
        word, _, _ = self._line[self._at:].partition(" ")
        self._at += len(word) + 1
        return word

    def next_value(self):
        """The value that the next word or words stand for."""
        word = self.next_word()
        length, colon, _ = word.partition(":")
        if word == "-":
            return None
        if word == "[":
            return self._list()
        if not colon:
            return int(word)
        # What was gone over as a word may be only the beginning of the text.
        begin = self._at - len(word) + len(length)
        self._at = begin + int(length) + 1
        return self._line[begin:begin + int(length)]

    def _list(self):
        texts = []
        while not self._line.startswith("]", self._at):
            texts.append(self.next_value())
        self.next_word()
        return tuple(texts)

    def all_values(self):
        """The list of the values of all words that are left."""
        values = []
        while not self.is_over():
            values.append(self.next_value())
        return values

    def all_words(self):
        """The list of all words that are left, as they stand."""
        words = []
        while not self.is_over():
            words.append(self.next_word())
        return words
