"""The derivation of octets from passwords (PBKDF2), whole and in steps."""

from saltmill.costs import RANGES, check_cost
from saltmill.digests import check_name
from saltmill.errors import CostError, LengthError
from saltmill.families import NAMES, SIZES
from saltmill.keying import absorbed_key, check_key, read_key
from saltmill.octets import MOST_OCTETS, big, check_octets
from saltmill.saved import SavedText, counted, saved_text
from saltmill.words import xor_words

MOST_SIZE = 4096


def check_size(size):
    """Raise LengthError for a size that no output has."""
    if not 1 <= size <= MOST_SIZE:
        raise LengthError()


def check_arguments(name, password, salt, rounds, size):
    """Raise the errors for the arguments of a derivation, in their order."""
    check_name(name)
    check_key(password)
    check_octets(salt)
    check_cost("rounds", rounds)
    check_size(size)


def first_link(key, salt, number):
    """The first link of the block of this number."""
    return key.tag(salt + big(number, 4))


def stretched_block(key, salt, rounds, number):
    """The block of this number, which joins all of its links."""
    link = first_link(key, salt, number)
    block = link
    for _ in range(rounds - 1):
        link = key.tag(link)
        block = xor_words(block, link)
    return block


def stretched(name, password, salt, rounds, size):
    """The output for a password, a salt and a size of whatever length."""
    key = absorbed_key(name, password)
    octets = []
    number = 0
    while len(octets) < size:
        number += 1
        octets.extend(stretched_block(key, salt, rounds, number))
    return tuple(octets[:size])


def pbkdf2(name, password, salt, rounds, size):
    """The octets that are derived from a password."""
    check_arguments(name, password, salt, rounds, size)
    return stretched(name, password, salt, rounds, size)


class Links:
    """The links of all blocks in steps, block by block."""

    def __init__(self, name, key, salt, rounds):
        self._size = SIZES[name]
        self._key = key
        self._salt = salt
        self._rounds = rounds
        # The link and the block of the steps of a block that is not done yet.
        self._link = ()
        self._block = ()

    def step(self, done):
        """Make the step behind so many others; the block if this was its last step, otherwise ()."""
        number, place = divmod(done, self._rounds)
        if place == 0:
            self._link = first_link(self._key, self._salt, number + 1)
            self._block = self._link
        else:
            self._link = self._key.tag(self._link)
            self._block = xor_words(self._block, self._link)
        return self._block if place == self._rounds - 1 else ()

    def numbers(self, done):
        """What is held behind so many steps."""
        return self._link + self._block if done % self._rounds > 0 else ()

    def restore(self, words, done):
        """Take what is held behind so many steps from a saved text."""
        if done % self._rounds > 0:
            self._link = words.numbers(self._size, 255)
            self._block = words.numbers(self._size, 255)


class Stretcher:
    """The octets that are derived from a password, computed in steps and read in pieces."""

    def __init__(self, name, password, salt, rounds, size):
        check_arguments(name, password, salt, rounds, size)
        self._name = name
        self._key = absorbed_key(name, password)
        self._salt = salt
        self._rounds = rounds
        self._size = size
        self._links = Links(name, self._key, salt, rounds)
        self._steps_done = 0
        self._octets_read = 0
        self._unread = ()

    @property
    def steps_left(self):
        """The number of steps that are left."""
        blocks = (self._size + SIZES[self._name] - 1) // SIZES[self._name]
        return self._rounds * blocks - self._steps_done

    @property
    def ready(self):
        """The number of octets that can be read at this moment."""
        return len(self._unread)

    @property
    def left(self):
        """The number of octets of the output that were not read yet."""
        return self._size - self._octets_read

    def run(self, count):
        """Do some steps, or all that are left if they are fewer; how many were done."""
        if count < 0:
            raise CostError()
        many = min(count, self.steps_left)
        for _ in range(many):
            block = self._links.step(self._steps_done)
            self._steps_done += 1
            # The last block may have more octets than the output still needs.
            needed = self.left - self.ready
            self._unread = self._unread + block[:needed]
        return many

    def read(self, count):
        """The next octets of the output, or all that are ready if they are fewer."""
        if not 0 <= count <= MOST_OCTETS:
            raise LengthError()
        octets = self._unread[:count]
        self._unread = self._unread[count:]
        self._octets_read += len(octets)
        return octets

    def save(self):
        """The state as a text."""
        numbers = (self._rounds, self._size) + self._key.chains() + counted(self._salt)
        numbers = numbers + (self._steps_done, self._octets_read)
        numbers = numbers + self._links.numbers(self._steps_done) + self._unread
        return saved_text(("stretcher", self._name), numbers)


def restore_stretcher(text):
    """The stretcher in the state of a text."""
    words = SavedText(text)
    words.word(("stretcher",))
    name = words.word(NAMES)
    least, most = RANGES["rounds"]
    rounds = words.number(least, most)
    size = words.number(1, MOST_SIZE)
    key = read_key(words, name)
    machine = Stretcher(name, key, words.octets(MOST_OCTETS), rounds, size)
    machine._steps_done = words.number(0, machine.steps_left)
    octets_done = min(machine._steps_done // rounds * SIZES[name], size)
    machine._octets_read = words.number(0, octets_done)
    machine._links.restore(words, machine._steps_done)
    machine._unread = words.numbers(octets_done - machine._octets_read, 255)
    words.end()
    return machine
