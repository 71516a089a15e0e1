"""Keyed digests (HMAC), whole and in pieces."""

from saltmill.digests import check_name
from saltmill.families import BLOCK_LENGTHS, NAMES
from saltmill.keying import absorbed_key, check_key, read_key
from saltmill.octets import check_octets
from saltmill.saved import GREATEST_NUMBER, SavedText, saved_text


def hmac(name, key, octets):
    """The tag of a message under a key."""
    check_name(name)
    check_octets(key)
    check_octets(octets)
    return absorbed_key(name, key).tag(octets)


class Keyed:
    """The tag of a message that arrives in pieces."""

    def __init__(self, name, key):
        check_name(name)
        check_key(key)
        self._name = name
        self._key = absorbed_key(name, key)
        self._length = 0
        self._chain = self._key.inner
        self._rest = ()

    @property
    def name(self):
        """The name of the digest."""
        return self._name

    def update(self, octets):
        """Append a piece to the message."""
        check_octets(octets)
        pending = self._rest + octets
        self._chain, self._rest = self._key.compressor.absorb(self._chain, pending)
        self._length += len(octets)

    def finish(self):
        """The tag of all pieces so far; more may follow."""
        return self._key.closed(self._chain, self._rest, self._length)

    def fork(self):
        """A second object in the same state."""
        twin = Keyed(self._name, self._key)
        twin._length = self._length
        twin._chain = self._chain
        twin._rest = self._rest
        return twin

    def save(self):
        """The state as a text."""
        numbers = (self._length,) + self._key.outer + self._chain + self._rest
        return saved_text(("keyed", self._name), numbers)


def restore_keyed(text):
    """The object in the state of a text."""
    words = SavedText(text)
    words.word(("keyed",))
    name = words.word(NAMES)
    length = words.number(0, GREATEST_NUMBER)
    # The inner chain of this key may be one behind blocks of the message.
    machine = Keyed(name, read_key(words, name))
    machine._length = length
    machine._rest = words.numbers(length % BLOCK_LENGTHS[name], 255)
    words.end()
    return machine
