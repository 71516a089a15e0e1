"""What a job holds of the inputs that are not needed until the end: takers absorb them.

A taker takes the octets that it needs, returns the others, and can be saved in between. When it
needs no more, it has a key or a seed.
"""

from saltmill.blake import BLOCK_LENGTH, absorbed, closed, start_state
from saltmill.blocks import number
from saltmill.families import BLOCK_LENGTHS
from saltmill.filling import SEED_SIZE, seed_head
from saltmill.forms import absorbed_lengths, named_parts
from saltmill.keying import NoKey, absorbed_key, read_key
from saltmill.mixing import SCRYPT_DIGEST
from saltmill.roots import LOW_64


class NoTaker:
    """It stands in the place of a taker where all inputs are kept."""

    def __init__(self, name):
        self.outcome = NoKey(name)

    def take(self, octets):
        """All octets, because none is needed."""
        return octets

    def numbers(self):
        """No numbers, because there is nothing to save."""
        return ()

    def restore(self, words, taken):
        """Nothing happens, because nothing was saved."""


class KeyTaker:
    """Takes a key, or the octets whose tag under another one is the key."""

    def __init__(self, name, length, source):
        self._name = name
        self._length = length
        # Without a source the octets themselves are the key.
        self._source = source
        self._taken = 0
        self._chain = () if source is None else source.inner
        self._rest = ()
        self.outcome = None

    def take(self, octets):
        """Take what is needed; the octets behind it."""
        if self.outcome is not None:
            return octets
        many = self._length - self._taken
        self._taken += len(octets[:many])
        self._rest = self._rest + octets[:many]
        if self._source is not None:
            self._chain, self._rest = self._source.compressor.absorb(self._chain, self._rest)
        if self._taken == self._length:
            self.outcome = absorbed_key(self._name, self._key_octets())
        return octets[many:]

    def _key_octets(self):
        if self._source is None:
            return self._rest
        return self._source.closed(self._chain, self._rest, self._length)

    def numbers(self):
        """What is held of the octets that were taken."""
        return self._chain + self._rest if self.outcome is None else self.outcome.chains()

    def restore(self, words, taken):
        """Take what is held behind so many octets from a saved text."""
        self._taken = taken
        if taken == self._length:
            self.outcome = read_key(words, self._name)
        elif self._source is None:
            self._rest = words.numbers(taken, 255)
        else:
            self._chain = words.chain(self._name)
            self._rest = words.numbers(taken % BLOCK_LENGTHS[self._name], 255)


def key_taker(name, length):
    """The taker of a key of this length."""
    # A long key is replaced by its digest, so that its octets need not wait for the last one.
    return KeyTaker(name, length, NoKey(name) if length > BLOCK_LENGTHS[name] else None)


class ExtractTaker:
    """Takes the salt and the material of HKDF, which make a key."""

    def __init__(self, name, salt_length, length):
        self._name = name
        self._salt_length = salt_length
        self._length = length
        self._salt = key_taker(name, salt_length)
        # It needs the key that the salt gives.
        self._material = None
        self.outcome = None

    def take(self, octets):
        """Take what is needed; the octets behind it."""
        if self.outcome is not None:
            return octets
        octets = self._salt.take(octets)
        if self._salt.outcome is None:
            return octets
        if self._material is None:
            self._begin_material()
        octets = self._material.take(octets)
        self.outcome = self._material.outcome
        return octets

    def _begin_material(self):
        self._material = KeyTaker(self._name, self._length, self._salt.outcome)

    def numbers(self):
        """What is held of the octets that were taken."""
        if self.outcome is not None:
            return self.outcome.chains()
        if self._material is None:
            return self._salt.numbers()
        return self._salt.numbers() + self._material.numbers()

    def restore(self, words, taken):
        """Take what is held behind so many octets from a saved text."""
        if taken == self._salt_length + self._length:
            self.outcome = read_key(words, self._name)
            return
        self._salt.restore(words, min(taken, self._salt_length))
        if taken >= self._salt_length:
            self._begin_material()
            self._material.restore(words, taken - self._salt_length)


class SeedTaker:
    """Takes the inputs of Argon2, which make the seed."""

    def __init__(self, parts, lengths):
        # By the number of octets before it: the length of an input as octets, which stands before it.
        self._heads = {}
        for index, length in enumerate(lengths):
            start = sum(lengths[:index])
            self._heads[start] = self._heads.get(start, ()) + number(length)
        self._length = sum(lengths)
        self._taken = 0
        self._state = start_state(SEED_SIZE, 0)
        self._done = 0
        self._waiting = seed_head(parts["kind"], parts["memory"], parts["passes"], parts["lanes"],
                                  parts["size"]) + self._heads[0]
        self.outcome = None

    def take(self, octets):
        """Take what is needed; the octets behind it."""
        many = self._length - self._taken
        pending = list(self._waiting)
        for octet in octets[:many]:
            self._taken += 1
            pending.append(octet)
            pending.extend(self._heads.get(self._taken, ()))
        self._state, self._done, self._waiting = absorbed(self._state, self._done, tuple(pending))
        if self._taken == self._length and self.outcome is None:
            self.outcome = closed(self._state, self._done, self._waiting, SEED_SIZE)
        return octets[many:]

    def numbers(self):
        """What is held of the octets that were taken."""
        return self._state + self._waiting if self.outcome is None else self.outcome

    def restore(self, words, taken):
        """Take what is held behind so many octets from a saved text."""
        if taken == self._length:
            self.outcome = words.numbers(SEED_SIZE, 255)
            self._taken = taken
            return
        heads = [self._heads[start] for start in self._heads if 0 < start <= taken]
        begun = len(self._waiting) + taken + sum([len(head) for head in heads])
        self._taken = taken
        # The last block waits, even if it is full.
        self._done = (begun - 1) // BLOCK_LENGTH * BLOCK_LENGTH
        self._state = words.numbers(8, LOW_64)
        self._waiting = words.numbers(begun - self._done, 255)


def new_taker(request):
    """The taker for a request, which has taken nothing yet."""
    parts = named_parts(request)
    lengths = absorbed_lengths(request)
    if request[0] == "one_step":
        return NoTaker(parts["name"])
    if request[0] == "argon2":
        return SeedTaker(parts, lengths)
    name = SCRYPT_DIGEST if request[0] == "scrypt" else parts["name"]
    if request[0] == "hkdf":
        return ExtractTaker(name, lengths[0], lengths[1])
    return key_taker(name, lengths[0])
