"""Octet strings, which are tuples of octets, and their texts and numbers."""

from saltmill.errors import LengthError, OctetError, TextError

MOST_OCTETS = 4096
SMALL_DIGITS = "0123456789abcdef"
CAPITAL_DIGITS = "0123456789ABCDEF"
ALPHABET = "ABCDEFGHIJKLMNOPQRSTUVWXYZabcdefghijklmnopqrstuvwxyz0123456789+/"


def is_octet(value):
    """True if the value is an integer from 0 to 255; a boolean is none."""
    return isinstance(value, int) and not isinstance(value, bool) and 0 <= value <= 255


def is_octets(value):
    """True if the value is an octet string, of whatever length."""
    return isinstance(value, tuple) and all(is_octet(item) for item in value)


def check_octets(*values):
    """Raise OctetError if a value is no octet string, and then LengthError if one is too long."""
    for value in values:
        if not is_octets(value):
            raise OctetError()
    for value in values:
        if len(value) > MOST_OCTETS:
            raise LengthError()


def check_limited(value, most, least=0):
    """Raise OctetError if the value is no octet string, and then LengthError for its length."""
    if not is_octets(value):
        raise OctetError()
    if not least <= len(value) <= most:
        raise LengthError()


def to_hex(octets):
    """The text with two digits for each octet."""
    check_octets(octets)
    return "".join([f"{octet:02x}" for octet in octets])


def from_hex(text):
    """The octet string of a text of hexadecimal digits, small or capital."""
    digits = [_hex_value(character) for character in text]
    _check_values(digits)
    if len(digits) % 2 == 1:
        raise TextError(len(digits))
    return tuple([16 * high + low for high, low in zip(digits[::2], digits[1::2])])


def _hex_value(character):
    value = SMALL_DIGITS.find(character)
    return value if value >= 0 else CAPITAL_DIGITS.find(character)


def _check_values(values):
    # A character that is not in its alphabet was found at -1.
    for at, value in enumerate(values):
        if value < 0:
            raise TextError(at)


def to_base64(octets):
    """The base64 text of an octet string, without padding characters."""
    check_octets(octets)
    return "".join([_group_text(octets[at:at + 3]) for at in range(0, len(octets), 3)])


def _group_text(group):
    bits = from_big(group + (0,) * (3 - len(group)))
    characters = [ALPHABET[(bits >> shift) & 63] for shift in (18, 12, 6, 0)]
    return "".join(characters[:len(group) + 1])


def from_base64(text):
    """The octet string of a base64 text without padding characters."""
    values = [ALPHABET.find(character) for character in text]
    _check_values(values)
    if len(values) % 4 == 1:
        raise TextError(len(values))
    octets = []
    for at in range(0, len(values), 4):
        group = values[at:at + 4]
        bits = _joined_bits(group)
        unused = 6 * len(group) % 8
        # Only the last group can have unused bits, so the last character is to blame.
        if bits & ((1 << unused) - 1):
            raise TextError(len(values) - 1)
        octets.extend(big(bits >> unused, 6 * len(group) // 8))
    return tuple(octets)


def _joined_bits(values):
    bits = 0
    for value in values:
        bits = (bits << 6) | value
    return bits


def from_ascii(text):
    """The codes of the characters of a text, in which newlines and tabs may stand, too."""
    for at, character in enumerate(text):
        if not (" " <= character <= "~" or character in "\n\t"):
            raise TextError(at)
    return tuple([ord(character) for character in text])


def big(number, size):
    """The octets of a number, the most significant one first."""
    return little(number, size)[::-1]


def little(number, size):
    """The octets of a number, the least significant one first."""
    if size < 0 or number < 0 or number.bit_length() > 8 * size:
        raise LengthError()
    return tuple([(number >> (8 * place)) & 255 for place in range(size)])


def from_big(octets):
    """The number of an octet string whose most significant octet is the first."""
    check_octets(octets)
    number = 0
    for octet in octets:
        number = (number << 8) | octet
    return number


def from_little(octets):
    """The number of an octet string whose least significant octet is the first."""
    check_octets(octets)
    return from_big(octets[::-1])


def xor(first, second):
    """The octets in which the bits of both octet strings differ."""
    check_octets(first, second)
    if len(first) != len(second):
        raise LengthError()
    return tuple([one ^ other for one, other in zip(first, second)])


def same_octets(first, second):
    """True if both octet strings are equal."""
    check_octets(first, second)
    if len(first) != len(second):
        return False
    # All octets are combined first, so that the time does not tell where they differ.
    difference = 0
    for one, other in zip(first, second):
        difference = difference | (one ^ other)
    return difference == 0
