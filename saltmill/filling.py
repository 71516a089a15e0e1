"""Argon2, and the filling of its matrix in any order that it allows."""

from saltmill.blake import blake_digest
from saltmill.blocks import BLOCK_OCTETS, joined_block, number, sized_digest
from saltmill.costs import MOST_MEMORY, RANGES, check_cost, check_memory, most_lanes
from saltmill.errors import ChoiceError, CostError, LengthError, OctetError, OrderError
from saltmill.matrix import KINDS, SLICES, Matrix
from saltmill.octets import check_octets, is_octets
from saltmill.saved import SavedText, saved_text

LEAST_TAG = 4
MOST_TAG = 512
SEED_SIZE = 64
VERSION = 19


def long_digest(octets, size):
    """The digest of an octet string of any length, with up to 1024 octets."""
    if not is_octets(octets):
        raise OctetError()
    if not 1 <= size <= BLOCK_OCTETS:
        raise LengthError()
    return sized_digest(octets, size)


def join_blocks(first, second):
    """The block that two blocks give."""
    return joined_block(first, second)


def check_kind(kind):
    """Raise ChoiceError if this is not a kind."""
    if kind not in KINDS:
        raise ChoiceError()


def check_arguments(kind, strings, memory, passes, lanes, size):
    """Raise the errors for the arguments of a filling, in their order."""
    check_kind(kind)
    for octets in strings:
        check_octets(octets)
    check_cost("memory", memory)
    check_cost("passes", passes)
    check_cost("lanes", lanes)
    check_memory(memory, lanes)
    if not LEAST_TAG <= size <= MOST_TAG:
        raise LengthError()


def seed_head(kind, memory, passes, lanes, size):
    """What the seed is made of besides the octet strings."""
    octets = ()
    for value in (lanes, size, memory, passes, VERSION, KINDS.index(kind)):
        octets = octets + number(value)
    return octets


def seed_of(kind, strings, memory, passes, lanes, size):
    """The octets from which the first blocks are made."""
    octets = seed_head(kind, memory, passes, lanes, size)
    for string in strings:
        octets = octets + number(len(string)) + string
    return blake_digest(octets, SEED_SIZE, ())


def argon2(kind, password, salt, secret, data, memory, passes, lanes, size):
    """The octets that are derived from a password."""
    strings = (password, salt, secret, data)
    check_arguments(kind, strings, memory, passes, lanes, size)
    seed = seed_of(kind, strings, memory, passes, lanes, size)
    matrix = Matrix(kind, memory, passes, lanes, seed)
    for _ in range(passes * SLICES):
        for lane in range(lanes):
            for _ in range(matrix.width):
                matrix.fill_next(lane)
    return matrix.tag(size)


class Filler:
    """The filling of a matrix in steps, which may go on in any lane of the current slice."""

    def __init__(self, kind, password, salt, secret, data, memory, passes, lanes, size):
        strings = (password, salt, secret, data)
        check_arguments(kind, strings, memory, passes, lanes, size)
        self._memory = memory
        self._size = size
        seed = seed_of(kind, strings, memory, passes, lanes, size)
        self._matrix = Matrix(kind, memory, passes, lanes, seed)

    @property
    def steps(self):
        """The number of blocks filled so far, counted in every pass."""
        return self._matrix.made

    @property
    def left(self):
        """The number of blocks that are still to be filled."""
        return self._matrix.total - self._matrix.made

    def room(self, lane):
        """How many blocks of a lane can be filled in the current slice."""
        if not 0 <= lane < len(self._matrix.filled):
            raise CostError()
        return self._matrix.free(lane)

    def fill(self, lane, count):
        """Fill the next blocks of a lane, at most those of its segment; how many were filled."""
        many = min(max(count, 0), self.room(lane))
        for _ in range(many):
            self._matrix.fill_next(lane)
        return many

    def tag(self):
        """The tag, when all blocks are filled."""
        if self.left > 0:
            raise OrderError()
        return self._matrix.tag(self._size)

    def save(self):
        """The state as a text."""
        matrix = self._matrix
        numbers = [self._memory, matrix.passes, len(matrix.filled), self._size]
        numbers = numbers + [matrix.pass_number, matrix.slice_number] + matrix.filled
        numbers = numbers + list(matrix.seed) + matrix.block_words()
        return saved_text(("filler", matrix.kind), numbers)


def restore_filler(text):
    """The filler that saved the text."""
    words = SavedText(text)
    words.word(("filler",))
    kind = words.word(KINDS)
    memory = words.number(0, MOST_MEMORY)
    least, most = RANGES["passes"]
    passes = words.number(least, most)
    # A memory that is too small for any number of lanes shows here, too.
    lanes = words.number(1, most_lanes(memory))
    size = words.number(LEAST_TAG, MOST_TAG)
    filler = Filler(kind, (), (), (), (), memory, passes, lanes, size)
    pass_number = words.number(0, passes)
    slice_number = words.number(0, SLICES - 1 if pass_number < passes else 0)
    filled = _read_filled(words, filler._matrix, pass_number)
    seed = words.numbers(SEED_SIZE, 255)
    filler._matrix = Matrix(kind, memory, passes, lanes, seed)
    filler._matrix.restore(words, pass_number, slice_number, filled)
    words.end()
    return filler


def _read_filled(words, matrix, pass_number):
    most = matrix.width if pass_number < matrix.passes else 0
    filled = words.numbers(len(matrix.filled) - 1, most)
    # A slice in which all lanes are full would be over.
    is_full = min(filled + (most,)) == matrix.width
    return filled + (words.number(0, most - 1 if is_full else most),)
