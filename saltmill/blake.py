"""The digest BLAKE2b, whole and in pieces."""

from saltmill.errors import LengthError
from saltmill.octets import check_limited, check_octets
from saltmill.roots import LOW_64, primes, square_root_fraction
from saltmill.saved import GREATEST_NUMBER, SavedText, saved_text
from saltmill.words import little_octets, little_words

BLOCK_LENGTH = 128
MOST_SIZE = 64
MOST_KEY = 64
ROUNDS = 12
# What the first word says of the form of a digest besides the lengths of key and digest.
FORM = 16842752

# By the round: the numbers of the message words in the order in which they are used.
ORDERS = (
    (0, 1, 2, 3, 4, 5, 6, 7, 8, 9, 10, 11, 12, 13, 14, 15),
    (14, 10, 4, 8, 9, 15, 13, 6, 1, 12, 0, 2, 11, 7, 5, 3),
    (11, 8, 12, 0, 5, 2, 15, 13, 10, 14, 3, 6, 7, 1, 9, 4),
    (7, 9, 3, 1, 13, 12, 11, 14, 2, 6, 5, 10, 4, 0, 15, 8),
    (9, 0, 5, 7, 2, 4, 10, 15, 14, 1, 11, 12, 6, 8, 3, 13),
    (2, 12, 6, 10, 0, 11, 8, 3, 4, 13, 7, 5, 15, 14, 1, 9),
    (12, 5, 1, 15, 14, 13, 4, 10, 0, 7, 6, 3, 9, 2, 8, 11),
    (13, 11, 7, 14, 12, 1, 3, 9, 5, 0, 15, 4, 8, 6, 2, 10),
    (6, 15, 14, 9, 11, 3, 0, 8, 12, 2, 13, 7, 1, 4, 10, 5),
    (10, 2, 8, 4, 7, 6, 1, 5, 15, 11, 9, 14, 3, 12, 13, 0),
)

# The numbers of the words that the quarter steps of a round change.
QUARTERS = (
    (0, 4, 8, 12), (1, 5, 9, 13), (2, 6, 10, 14), (3, 7, 11, 15),
    (0, 5, 10, 15), (1, 6, 11, 12), (2, 7, 8, 13), (3, 4, 9, 14),
)


def initial_words():
    """The eight words with which a state begins."""
    return tuple([square_root_fraction(prime) for prime in primes(8)])


def rotate(word, places):
    """A word of 64 bits, rotated to the right."""
    return ((word >> places) | (word << (64 - places))) & LOW_64


def quarter_step(a, b, c, d, x, y):
    """Four words, changed with two message words."""
    a = (a + b + x) & LOW_64
    d = rotate(d ^ a, 32)
    c = (c + d) & LOW_64
    b = rotate(b ^ c, 24)
    a = (a + b + y) & LOW_64
    d = rotate(d ^ a, 16)
    c = (c + d) & LOW_64
    b = rotate(b ^ c, 63)
    return a, b, c, d


def compress(state, words, count, last):
    """The state after the 16 words of one more block."""
    v = list(state) + list(initial_words())
    v[12] = v[12] ^ (count & LOW_64)
    v[13] = v[13] ^ ((count >> 64) & LOW_64)
    if last:
        v[14] = v[14] ^ LOW_64
    for number in range(ROUNDS):
        order = ORDERS[number % len(ORDERS)]
        for k, (a, b, c, d) in enumerate(QUARTERS):
            x, y = words[order[2 * k]], words[order[2 * k + 1]]
            v[a], v[b], v[c], v[d] = quarter_step(v[a], v[b], v[c], v[d], x, y)
    return tuple([h ^ v[k] ^ v[k + 8] for k, h in enumerate(state)])


def start_state(size, key_length):
    """The state before the first block."""
    initial = initial_words()
    return (initial[0] ^ (FORM + 256 * key_length + size),) + initial[1:]


def key_block(key):
    """The octets that go before the input."""
    if len(key) == 0:
        return ()
    return key + (0,) * (BLOCK_LENGTH - len(key))


def absorbed(state, done, octets):
    """The state, the number of octets compressed, and the octets that wait for others to follow."""
    # A block that may be the last one waits, even if it is full.
    end = max(len(octets) - 1, 0) // BLOCK_LENGTH * BLOCK_LENGTH
    for at in range(0, end, BLOCK_LENGTH):
        done += BLOCK_LENGTH
        state = compress(state, little_words(octets[at:at + BLOCK_LENGTH], 8), done, False)
    return state, done, octets[end:]


def closed(state, done, waiting, size):
    """The digest after the octets that wait."""
    block = waiting + (0,) * (BLOCK_LENGTH - len(waiting))
    last = compress(state, little_words(block, 8), done + len(waiting), True)
    return little_octets(last, 8)[:size]


def blake_digest(octets, size, key):
    """The digest of an octet string of any length."""
    state = start_state(size, len(key))
    state, done, waiting = absorbed(state, 0, key_block(key) + octets)
    return closed(state, done, waiting, size)


def check_form(size, key):
    """Raise the errors for the size of a digest and for a key."""
    if not 1 <= size <= MOST_SIZE:
        raise LengthError()
    check_limited(key, MOST_KEY)


def blake2b(octets, *, size=64, key=()):
    """The digest of an octet string."""
    check_octets(octets)
    check_form(size, key)
    return blake_digest(octets, size, key)


class Blake:
    """The digest of an octet string that arrives in pieces."""

    def __init__(self, size=64, key=()):
        check_form(size, key)
        self._size = size
        self._key_length = len(key)
        self._done = 0
        self._state = start_state(size, len(key))
        self._waiting = key_block(key)

    @property
    def taken(self):
        """The number of octets taken so far, without the key."""
        before = BLOCK_LENGTH if self._key_length > 0 else 0
        return self._done + len(self._waiting) - before

    def update(self, octets):
        """Take one more piece."""
        check_octets(octets)
        pending = self._waiting + octets
        self._state, self._done, self._waiting = absorbed(self._state, self._done, pending)

    def finish(self):
        """The digest of all pieces so far; more may follow."""
        return closed(self._state, self._done, self._waiting, self._size)

    def fork(self):
        """A second machine that has taken the same pieces."""
        twin = Blake(self._size)
        twin._key_length = self._key_length
        twin._done = self._done
        twin._state = self._state
        twin._waiting = self._waiting
        return twin

    def save(self):
        """The state as a text."""
        numbers = (self._size, self._key_length, self._done)
        return saved_text(("blake",), numbers + self._state + self._waiting)


def restore_blake(text):
    """The machine that saved the text."""
    words = SavedText(text)
    words.word(("blake",))
    machine = Blake(words.number(1, MOST_SIZE))
    machine._key_length = words.number(0, MOST_KEY)
    machine._done = words.number(0, GREATEST_NUMBER, BLOCK_LENGTH)
    if machine._done == 0:
        start = start_state(machine._size, machine._key_length)
        machine._state = tuple([words.number(word, word) for word in start])
    else:
        machine._state = words.numbers(8, LOW_64)
    machine._waiting = _read_waiting(words, machine._key_length, machine._done)
    words.end()
    return machine


def _read_waiting(words, key_length, done):
    if done == 0 and key_length > 0:
        key = words.numbers(key_length, 255)
        return key + words.numbers(BLOCK_LENGTH - key_length, 0)
    # A compressed block waited until a further octet came.
    least = 0 if done == 0 else 1
    return words.numbers(max(least, min(words.words_left(), BLOCK_LENGTH)), 255)
