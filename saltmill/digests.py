"""The digests SHA-1, SHA-224, SHA-256, SHA-384 and SHA-512, whole and in pieces."""

from saltmill.compressing import Compressor
from saltmill.errors import ChoiceError, LengthError, OctetError
from saltmill.families import BLOCK_LENGTHS, NAMES, SIZES, start_chain
from saltmill.octets import check_octets, is_octets
from saltmill.saved import GREATEST_NUMBER, SavedText, saved_text


def check_name(name):
    """Raise ChoiceError if this is not the name of a digest."""
    if name not in NAMES:
        raise ChoiceError()


def block_length(name):
    """The number of octets of a block."""
    check_name(name)
    return BLOCK_LENGTHS[name]


def digest_size(name):
    """The number of octets of a digest."""
    check_name(name)
    return SIZES[name]


def first_chain(name):
    """The chain with which a digest begins."""
    check_name(name)
    return start_chain(name)


def compress(name, chain, block):
    """The chain after one more block."""
    check_name(name)
    if not is_octets(block):
        raise OctetError()
    if len(block) != BLOCK_LENGTHS[name]:
        raise LengthError()
    return Compressor(name).compress(chain, block)


def digest(name, octets):
    """The digest of a message."""
    check_name(name)
    check_octets(octets)
    return Compressor(name).whole(octets)


class Digest:
    """The digest of a message that arrives in pieces."""

    def __init__(self, name):
        check_name(name)
        self._name = name
        self._length = 0
        self._chain = start_chain(name)
        self._rest = ()
        self._compressor = Compressor(name)

    @property
    def name(self):
        """The name of the digest."""
        return self._name

    @property
    def length(self):
        """The number of octets of the message so far."""
        return self._length

    def update(self, octets):
        """Append octets to the message."""
        check_octets(octets)
        self._chain, self._rest = self._compressor.absorb(self._chain, self._rest + octets)
        self._length += len(octets)

    def finish(self):
        """The digest of the message so far; the message may go on."""
        return self._compressor.closed(self._chain, self._rest, self._length)

    def fork(self):
        """A second machine with the same message."""
        twin = Digest(self._name)
        twin._length = self._length
        twin._chain = self._chain
        twin._rest = self._rest
        # Both share it, so that its constants are found once.
        twin._compressor = self._compressor
        return twin

    def save(self):
        """The state as a text."""
        return saved_text(("digest", self._name), (self._length,) + self._chain + self._rest)


def restore_digest(text):
    """The machine with the state of a text."""
    words = SavedText(text)
    words.word(("digest",))
    machine = Digest(words.word(NAMES))
    machine._length = words.number(0, GREATEST_NUMBER)
    machine._chain = _read_chain(words, machine._name, machine._length)
    left = machine._length % BLOCK_LENGTHS[machine._name]
    machine._rest = words.numbers(left, 255)
    words.end()
    return machine


def _read_chain(words, name, length):
    if length < BLOCK_LENGTHS[name]:
        # No block is complete yet, so each word can only be the one of the first chain.
        return tuple([words.number(word, word) for word in start_chain(name)])
    return words.chain(name)
