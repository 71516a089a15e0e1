"""The saved texts of machines: words that are separated by single spaces."""

from saltmill.errors import StateError
from saltmill.families import WORD_BITS, start_chain

MOST_DIGITS = 40
GREATEST_NUMBER = 10 ** 40 - 1


def saved_text(words, numbers):
    """The text of some words and of the numbers behind them."""
    return " ".join(list(words) + [str(number) for number in numbers])


def counted(octets):
    """The numbers that stand for an octet string: their number first."""
    return (len(octets),) + octets


def is_number(word):
    """True if a word is a decimal number without a sign and without leading zeros."""
    if not 1 <= len(word) <= MOST_DIGITS:
        return False
    if word[0] == "0":
        return len(word) == 1
    # isdigit takes digits of other scripts, too.
    return word.isascii() and word.isdigit()


class SavedText:
    """The words of a saved text, which are read one by one from left to right."""

    def __init__(self, text):
        if not isinstance(text, str):
            raise StateError(0)
        self._words = text.split(" ")
        self._at = 0

    def _next_word(self):
        if self._at == len(self._words):
            raise StateError(self._at)
        return self._words[self._at]

    def word(self, choices):
        """The next word, which must be one of the choices."""
        word = self._next_word()
        if word not in choices:
            raise StateError(self._at)
        self._at += 1
        return word

    def number(self, least, most, factor=1):
        """The next word as a number, which must be in this range and a multiple of the factor."""
        word = self._next_word()
        if not is_number(word) or not least <= int(word) <= most or int(word) % factor != 0:
            raise StateError(self._at)
        self._at += 1
        return int(word)

    def choice(self, numbers):
        """The next word as a number, which must be one of these."""
        word = self._next_word()
        if not is_number(word) or int(word) not in numbers:
            raise StateError(self._at)
        self._at += 1
        return int(word)

    def numbers(self, many, most):
        """The next words as a tuple of numbers from 0 to the greatest one."""
        return tuple([self.number(0, most) for place in range(many)])

    def octets(self, most):
        """The next words as an octet string behind its length, which must not be too great."""
        return self.numbers(self.number(0, most), 255)

    def chain(self, name):
        """The next words as any chain of a digest."""
        return self.numbers(len(start_chain(name)), (1 << WORD_BITS[name]) - 1)

    def words_left(self):
        """How many words are left."""
        return len(self._words) - self._at

    def end(self):
        """Raise StateError if a word is left."""
        if self._at < len(self._words):
            raise StateError(self._at)
