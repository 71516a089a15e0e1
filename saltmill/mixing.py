"""scrypt, and the mixing of its rows, whole and in steps."""

from saltmill.costs import (RANGES, check_cost, check_gap, check_product, choices_of_n, is_cost,
                            is_integer)
from saltmill.errors import LengthError, OrderError
from saltmill.octets import check_octets
from saltmill.saved import SavedText, saved_text
from saltmill.stretching import check_size, stretched
from saltmill.words import little_octets, little_words, xor_words

# What makes the strings of a password, and the output of the strings.
SCRYPT_DIGEST = "sha256"
LOW_32 = 2 ** 32 - 1
PIECE = 16

# The numbers of the words that the steps of a column round and of a row round change.
COLUMNS = ((0, 4, 8, 12), (5, 9, 13, 1), (10, 14, 2, 6), (15, 3, 7, 11))
ROWS = ((0, 1, 2, 3), (5, 6, 7, 4), (10, 11, 8, 9), (15, 12, 13, 14))


def check_words(words):
    """Raise LengthError if a word has more than 32 bits or is none."""
    for word in words:
        if not is_integer(word) or not 0 <= word <= LOW_32:
            raise LengthError()


def check_row(words):
    """Raise LengthError if the words are no row."""
    r, rest = divmod(len(words), 2 * PIECE)
    if rest != 0 or not is_cost("r", r):
        raise LengthError()
    check_words(words)


def rotated(word, places):
    """The lower 32 bits of a word, rotated to the left."""
    word = word & LOW_32
    return ((word << places) | (word >> (32 - places))) & LOW_32


def changed(a, b, c, d):
    """Four words after a step of a round."""
    b = b ^ rotated(a + d, 7)
    c = c ^ rotated(b + a, 9)
    d = d ^ rotated(c + b, 13)
    a = a ^ rotated(d + c, 18)
    return a, b, c, d


def salsa_piece(words):
    """The piece that eight rounds make of a piece."""
    x = list(words)
    for _ in range(4):
        for a, b, c, d in COLUMNS + ROWS:
            x[a], x[b], x[c], x[d] = changed(x[a], x[b], x[c], x[d])
    return tuple([(last + first) & LOW_32 for last, first in zip(x, words)])


def next_row(row):
    """The row that all pieces of a row make, one after the other."""
    piece = row[-PIECE:]
    noted = []
    for at in range(0, len(row), PIECE):
        piece = salsa_piece(xor_words(piece, row[at:at + PIECE]))
        noted.append(piece)
    return tuple([word for piece in noted[::2] + noted[1::2] for word in piece])


def wanted_row(row, n):
    """The number of the noted row that a row asks for."""
    low, high = row[-PIECE:-PIECE + 2]
    return (low + (high << 32)) % n


def mixed_row(row, n):
    """The row after the whole mixing."""
    noted = []
    for _ in range(n):
        noted.append(row)
        row = next_row(row)
    for _ in range(n):
        row = next_row(xor_words(row, noted[wanted_row(row, n)]))
    return row


def salsa(words):
    """The words that eight rounds make of 16 words."""
    if len(words) != PIECE:
        raise LengthError()
    check_words(words)
    return salsa_piece(words)


def block_mix(words):
    """The row that follows a row."""
    check_row(words)
    return next_row(tuple(words))


def mix(words, n):
    """The row after the mixing of a row with n noted rows."""
    check_row(words)
    check_cost("n", n)
    check_product(n, len(words) // (2 * PIECE))
    return mixed_row(tuple(words), n)


def scrypt(password, salt, n, r, p, size):
    """The octets that are derived from a password."""
    check_octets(password)
    check_octets(salt)
    check_cost("n", n)
    check_cost("r", r)
    check_cost("p", p)
    check_size(size)
    check_product(n, r)
    strings = stretched(SCRYPT_DIGEST, password, salt, 1, 128 * r * p)
    octets = []
    for at in range(0, len(strings), 128 * r):
        row = little_words(strings[at:at + 128 * r], 4)
        octets.extend(little_octets(mixed_row(row, n), 4))
    return stretched(SCRYPT_DIGEST, password, tuple(octets), 1, size)


class Mixer:
    """The mixing of a row in steps, which keeps only the rows at some distance from each other."""

    def __init__(self, words, n, *, gap=1):
        check_row(words)
        check_cost("n", n)
        check_gap(gap, n)
        check_product(n, len(words) // (2 * PIECE))
        self._n = n
        self._gap = gap
        self._done = 0
        self._row = tuple(words)
        self._kept = []
        # The row that a turn works out from a kept one; there is none between two turns.
        self._other = ()

    @property
    def steps(self):
        """The number of steps that have been made."""
        return self._done

    @property
    def left(self):
        """The number of steps that are still to be made."""
        return self._n + self._n * self._gap - self._done

    def run(self, count):
        """Make the next steps, or all that are left if they are fewer; how many were made."""
        many = min(max(count, 0), self.left)
        for _ in range(many):
            if self._done < self._n:
                self._first_step()
            else:
                self._turn_step((self._done - self._n) % self._gap)
            self._done += 1
        return many

    def _first_step(self):
        if self._done % self._gap == 0:
            self._kept.append(self._row)
        self._row = next_row(self._row)

    def _turn_step(self, place):
        # The row stays the same until the end of a turn, and so does the row that it asks for.
        kept, behind = divmod(wanted_row(self._row, self._n), self._gap)
        if place == 0:
            self._other = self._kept[kept]
        if place == self._gap - 1:
            self._row = next_row(xor_words(self._row, self._other))
            self._other = ()
        elif place < behind:
            self._other = next_row(self._other)

    def result(self):
        """The row after the whole mixing."""
        if self.left > 0:
            raise OrderError()
        return self._row

    def numbers(self):
        """The words of all rows that are held."""
        held = list(self._row)
        for row in self._kept:
            held.extend(row)
        held.extend(self._other)
        return held

    def restore(self, words, done):
        """Take the rows that are held behind these steps from a saved text."""
        many = len(self._row)
        self._done = done
        self._row = words.numbers(many, LOW_32)
        kept = (min(done, self._n) + self._gap - 1) // self._gap
        self._kept = [words.numbers(many, LOW_32) for _ in range(kept)]
        if done > self._n and (done - self._n) % self._gap > 0:
            self._other = words.numbers(many, LOW_32)

    def save(self):
        """The state as a text."""
        numbers = [len(self._row) // (2 * PIECE), self._n, self._gap, self._done]
        return saved_text(("mixer",), numbers + self.numbers())


def restore_mixer(text):
    """The mixer that saved the text."""
    words = SavedText(text)
    words.word(("mixer",))
    least, most = RANGES["r"]
    r = words.number(least, most)
    n = words.choice(choices_of_n(r))
    gap = words.number(1, n)
    mixer = Mixer((0,) * (2 * PIECE * r), n, gap=gap)
    mixer.restore(words, words.number(0, mixer.left))
    words.end()
    return mixer
