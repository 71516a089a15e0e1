"""The saved texts of machines: words that are separated by single spaces."""

from saltmill.errors import StateError

MOST_DIGITS = 40
GREATEST_NUMBER = 10 ** 40 - 1


def saved_text(words, numbers):
    """The text of some words and of the numbers behind them."""
    return " ".join(list(words) + [str(number) for number in numbers])


def is_number(word):
    """True if a word is a decimal number without a sign and without leading zeros."""
    if not 1 <= len(word) <= MOST_DIGITS:
        return False
    if word[0] == "0":
        return len(word) == 1
    # Not isdigit, which takes digits of other scripts, too.
    return all(character in "0123456789" for character in word)


class SavedText:
    """The words of a saved text, which are read one by one from left to right."""

    def __init__(self, text):
        if not isinstance(text, str):
            raise StateError(0)
        self._words = text.split(" ")
        self._at = 0

    def _next_word(self):
        if self._at == len(self._words):
            raise StateError(self._at)
        return self._words[self._at]

    def word(self, choices):
        """The next word, which must be one of the choices."""
        word = self._next_word()
        if word not in choices:
            raise StateError(self._at)
        self._at += 1
        return word

    def number(self, least, most):
        """The next word as a number, which must be in this range."""
        word = self._next_word()
        if not is_number(word) or not least <= int(word) <= most:
            raise StateError(self._at)
        self._at += 1
        return int(word)

    def numbers(self, many, most):
        """The next words as a tuple of numbers from 0 to the greatest one."""
        return tuple([self.number(0, most) for place in range(many)])

    def end(self):
        """Raise StateError if a word is left."""
        if self._at < len(self._words):
            raise StateError(self._at)
