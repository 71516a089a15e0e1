"""The derivations of long octet strings, each of them block by block."""

from saltmill.digests import check_name
from saltmill.errors import ChoiceError, LengthError
from saltmill.families import NAMES, SIZES
from saltmill.keying import AbsorbedKey, NoKey, absorbed_key, read_key
from saltmill.octets import MOST_OCTETS, big, check_limited, from_ascii
from saltmill.saved import counted

SCHEMES = ("hkdf", "counter", "feedback", "pipeline", "one_step", "label")
# 255 blocks of the shortest digest are more than this, so HKDF allows no less than the others.
MOST_SIZE = 4096
MOST_LABEL = 249
MOST_CONTEXT = 255


def string_limits(scheme):
    """The greatest lengths of the octet strings of a request."""
    if scheme == "label":
        return (MOST_OCTETS, MOST_LABEL, MOST_CONTEXT)
    if scheme in ("hkdf", "one_step"):
        return (MOST_OCTETS,) * 2
    return (MOST_OCTETS,) * (4 if scheme == "feedback" else 3)


def check_request(request):
    """Raise the errors for a request, part by part."""
    scheme, name, *strings, size = request
    if scheme not in SCHEMES:
        raise ChoiceError()
    check_name(name)
    for value, most in zip(strings, string_limits(scheme)):
        # A restored reader has a key that is absorbed and was checked before.
        if not isinstance(value, AbsorbedKey):
            check_limited(value, most)
    if not 1 <= size <= MOST_SIZE:
        raise LengthError()


def fixed_part(label, context, size):
    """What the keyed derivations put into each of their blocks."""
    return label + (0,) + context + big(8 * size, 4)


def label_info(label, context, size):
    """The info of HKDF in which a label stands."""
    full = from_ascii("tls13 ") + label
    return big(size, 2) + (len(full),) + full + (len(context),) + context


def fixed_octets(scheme, strings, size):
    """The octets that stand in every block, by the strings that a derivation keeps."""
    if scheme == "hkdf":
        return strings[0]
    if scheme == "label":
        return label_info(strings[0], strings[1], size)
    if scheme == "one_step":
        return strings[0] + strings[1]
    # The iv of "feedback" stands before these two.
    return fixed_part(strings[-2], strings[-1], size)


class Derivation:
    """The blocks of one request.

    What is held between two blocks is all that the second one needs of the first one; the block
    itself is the end of it.
    """

    def __init__(self, request):
        check_request(request)
        scheme, name, *strings, size = request
        self.scheme = scheme
        self.digest_name = name
        self.size = size
        self.block_size = SIZES[name]
        if scheme == "one_step":
            self._key = NoKey(name)
            self._strings = tuple(strings)
        else:
            self._key = absorbed_key(name, strings[0])
            self._strings = tuple(strings[1:])
        self._fixed = fixed_octets(scheme, self._strings, size)

    def first_held(self):
        """What is held before the first block."""
        return self._strings[0] if self.scheme == "feedback" else ()

    def next_held(self, number, held):
        """What is held after the block of this number, by what was held before it."""
        if self.scheme in ("hkdf", "label"):
            return self._key.tag(held + self._fixed + (number,))
        numbered = big(number, 4) + self._fixed
        if self.scheme == "feedback":
            return self._key.tag(held + numbered)
        if self.scheme == "pipeline":
            link = self._key.tag(self._fixed if number == 1 else held[:self.block_size])
            return link + self._key.tag(link + numbered)
        return self._key.tag(numbered)

    def held_length(self):
        """The number of octets that are held after a block."""
        return 2 * self.block_size if self.scheme == "pipeline" else self.block_size

    def block(self, held):
        """The last block that was made."""
        return held[-self.block_size:]

    def numbers(self):
        """The numbers by which a saved text tells the request."""
        numbers = (self.size,) + self._key.chains()
        for string in self._strings:
            numbers = numbers + counted(string)
        return numbers


def derived(request):
    """The whole output of a request."""
    derivation = Derivation(request)
    held = derivation.first_held()
    octets = []
    number = 0
    while len(octets) < derivation.size:
        number += 1
        held = derivation.next_held(number, held)
        octets.extend(derivation.block(held))
    return tuple(octets[:derivation.size])


def read_request(words):
    """The request that the next words of a saved text tell; its key is absorbed already."""
    scheme = words.word(SCHEMES)
    name = words.word(NAMES)
    size = words.number(1, MOST_SIZE)
    if scheme == "one_step":
        secret_and_info = [words.octets(most) for most in string_limits(scheme)]
        return (scheme, name, *secret_and_info, size)
    key = read_key(words, name)
    others = [words.octets(most) for most in string_limits(scheme)[1:]]
    return (scheme, name, key, *others, size)
