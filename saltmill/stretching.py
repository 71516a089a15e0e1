"""The derivation of octets from passwords (PBKDF2), whole and in steps."""

from saltmill.digests import check_name
from saltmill.errors import CostError, LengthError
from saltmill.families import NAMES, SIZES
from saltmill.keying import absorbed_key, check_key, read_key
from saltmill.octets import MOST_OCTETS, big, check_octets, xor
from saltmill.saved import SavedText, counted, saved_text

MOST_ROUNDS = 1000000
MOST_SIZE = 4096


def check_arguments(name, password, salt, rounds, size):
    """Raise the errors for the arguments of a derivation, in their order."""
    check_name(name)
    check_key(password)
    check_octets(salt)
    if not 1 <= rounds <= MOST_ROUNDS:
        raise CostError()
    if not 1 <= size <= MOST_SIZE:
        raise LengthError()


def first_link(key, salt, number):
    """The first link of the block of this number."""
    return key.tag(salt + big(number, 4))


def stretched_block(key, salt, rounds, number):
    """The block of this number, which joins all of its links."""
    link = first_link(key, salt, number)
    block = link
    for _ in range(rounds - 1):
        link = key.tag(link)
        block = xor(block, link)
    return block


def stretched(name, password, salt, rounds, size):
    """The output for a password, a salt and a size of whatever length."""
    key = absorbed_key(name, password)
    octets = []
    number = 0
    while len(octets) < size:
        number += 1
        octets.extend(stretched_block(key, salt, rounds, number))
    return tuple(octets[:size])


def pbkdf2(name, password, salt, rounds, size):
    """The octets that are derived from a password."""
    check_arguments(name, password, salt, rounds, size)
    return stretched(name, password, salt, rounds, size)


class Stretcher:
    """The octets that are derived from a password, computed in steps and read in pieces."""

    def __init__(self, name, password, salt, rounds, size):
        check_arguments(name, password, salt, rounds, size)
        self._name = name
        self._key = absorbed_key(name, password)
        self._salt = salt
        self._rounds = rounds
        self._size = size
        self._steps_done = 0
        self._octets_read = 0
        # The link and the block of the steps of a block that is not done yet.
        self._link = ()
        self._block = ()
        self._unread = ()

    @property
    def steps_left(self):
        """The number of steps that are left."""
        blocks = (self._size + SIZES[self._name] - 1) // SIZES[self._name]
        return self._rounds * blocks - self._steps_done

    @property
    def ready(self):
        """The number of octets that can be read at this moment."""
        return len(self._unread)

    @property
    def left(self):
        """The number of octets of the output that were not read yet."""
        return self._size - self._octets_read

    def run(self, count):
        """Do some steps, or all that are left if they are fewer; how many were done."""
        if count < 0:
            raise CostError()
        many = min(count, self.steps_left)
        for _ in range(many):
            self._step()
        return many

    def _step(self):
        number = self._steps_done // self._rounds + 1
        if self._steps_done % self._rounds == 0:
            self._link = first_link(self._key, self._salt, number)
            self._block = self._link
        else:
            self._link = self._key.tag(self._link)
            self._block = xor(self._block, self._link)
        self._steps_done += 1
        if self._steps_done % self._rounds == 0:
            self._close_block(number)

    def _close_block(self, number):
        # The last block may have more octets than the output still needs.
        needed = self._size - (number - 1) * len(self._block)
        self._unread = self._unread + self._block[:needed]
        self._link = ()
        self._block = ()

    def read(self, count):
        """The next octets of the output, or all that are ready if they are fewer."""
        if not 0 <= count <= MOST_OCTETS:
            raise LengthError()
        octets = self._unread[:count]
        self._unread = self._unread[count:]
        self._octets_read += len(octets)
        return octets

    def save(self):
        """The state as a text."""
        numbers = (self._rounds, self._size) + self._key.chains() + counted(self._salt)
        numbers = numbers + (self._steps_done, self._octets_read)
        numbers = numbers + self._link + self._block + self._unread
        return saved_text(("stretcher", self._name), numbers)


def restore_stretcher(text):
    """The stretcher in the state of a text."""
    words = SavedText(text)
    words.word(("stretcher",))
    name = words.word(NAMES)
    rounds = words.number(1, MOST_ROUNDS)
    size = words.number(1, MOST_SIZE)
    key = read_key(words, name)
    machine = Stretcher(name, key, words.octets(MOST_OCTETS), rounds, size)
    machine._steps_done = words.number(0, machine.steps_left)
    blocks_done, steps_of_block = divmod(machine._steps_done, rounds)
    octets_done = min(blocks_done * SIZES[name], size)
    machine._octets_read = words.number(0, octets_done)
    if steps_of_block > 0:
        machine._link = words.numbers(SIZES[name], 255)
        machine._block = words.numbers(SIZES[name], 255)
    machine._unread = words.numbers(octets_done - machine._octets_read, 255)
    words.end()
    return machine
