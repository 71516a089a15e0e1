"""Padding and compression of messages of any length, by chains."""

from saltmill.families import BLOCK_LENGTHS, SIZES, WORD_BITS, round_constants, start_chain
from saltmill.octets import big
from saltmill.rounds import long_rounds, short_rounds


def padding(name, length):
    """The octets that a digest puts behind a message of this length."""
    block_length = BLOCK_LENGTHS[name]
    field = block_length // 8
    zeros = (-length - 1 - field) % block_length
    bits = 8 * length % (1 << (8 * field))
    return (128,) + (0,) * zeros + big(bits, field)


def block_words(block):
    """The 16 words of a block, each most significant octet first."""
    size = len(block) // 16
    words = []
    for at in range(0, len(block), size):
        word = 0
        for octet in block[at:at + size]:
            word = (word << 8) | octet
        words.append(word)
    return words


class Compressor:
    """The compression of one digest. It never changes as far as its answers go."""

    def __init__(self, name):
        self._name = name
        self.block_length = BLOCK_LENGTHS[name]
        # Found when the first block comes: many machines share a compressor or see no block.
        self._constants = ()

    def compress(self, chain, block):
        """The chain after one more block."""
        if len(self._constants) == 0:
            self._constants = round_constants(self._name)
        if self._name == "sha1":
            return short_rounds(self._constants, chain, block_words(block))
        return long_rounds(self._constants, chain, block_words(block), WORD_BITS[self._name])

    def absorb(self, chain, octets):
        """The chain after all complete blocks of the octets, and the octets that are left."""
        end = len(octets) - len(octets) % self.block_length
        for at in range(0, end, self.block_length):
            chain = self.compress(chain, octets[at:at + self.block_length])
        return chain, octets[end:]

    def closed(self, chain, rest, length):
        """The digest of a message of this length, by the chain and the octets that were left."""
        last, _ = self.absorb(chain, rest + padding(self._name, length))
        octets = []
        for word in last:
            octets.extend(big(word, WORD_BITS[self._name] // 8))
        return tuple(octets[:SIZES[self._name]])

    def whole(self, octets):
        """The digest of a whole message."""
        chain, rest = self.absorb(start_chain(self._name), octets)
        return self.closed(chain, rest, len(octets))
