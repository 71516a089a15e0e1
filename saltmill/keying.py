"""Keys of keyed digests, each absorbed once into two chains."""

from saltmill.compressing import Compressor
from saltmill.families import start_chain
from saltmill.octets import check_octets

INNER = 54
OUTER = 92


class AbsorbedKey:
    """A key of which the chains after the outer and the inner block are all that is left."""

    def __init__(self, compressor, outer, inner):
        self.compressor = compressor
        self.outer = outer
        self.inner = inner

    def closed(self, chain, rest, length):
        """The tag of a message of this length, by its inner chain and the octets that were left."""
        before = self.compressor.block_length
        inside = self.compressor.closed(chain, rest, before + length)
        return self.compressor.closed(self.outer, inside, before + len(inside))

    def chains(self):
        """The words of both chains, which stand for the key in a saved text."""
        return self.outer + self.inner

    def tag(self, octets):
        """The tag of a whole message of any length."""
        chain, rest = self.compressor.absorb(self.inner, octets)
        return self.closed(chain, rest, len(octets))


class NoKey:
    """It stands in the place of a key where none takes part: a tag is just a digest."""

    def __init__(self, name):
        self.compressor = Compressor(name)
        self.inner = start_chain(name)

    def closed(self, chain, rest, length):
        """The digest of a message of this length, by its chain and the octets that were left."""
        return self.compressor.closed(chain, rest, length)

    def chains(self):
        """No words, because there is nothing to save."""
        return ()

    def tag(self, octets):
        """The digest of a whole message of any length."""
        return self.compressor.whole(octets)


def check_key(key):
    """Raise the errors for a key; one that is absorbed was checked before."""
    if not isinstance(key, AbsorbedKey):
        check_octets(key)


def absorbed_key(name, key):
    """The key, absorbed; a machine that is forked or restored has one that is absorbed already."""
    if isinstance(key, AbsorbedKey):
        return key
    compressor = Compressor(name)
    if len(key) > compressor.block_length:
        key = compressor.whole(key)
    block = key + (0,) * (compressor.block_length - len(key))
    start = start_chain(name)
    outer = compressor.compress(start, tuple([octet ^ OUTER for octet in block]))
    inner = compressor.compress(start, tuple([octet ^ INNER for octet in block]))
    return AbsorbedKey(compressor, outer, inner)


def read_key(words, name):
    """The absorbed key whose two chains are the next words of a saved text."""
    outer = words.chain(name)
    inner = words.chain(name)
    return AbsorbedKey(Compressor(name), outer, inner)
