"""The blocks of Argon2: how two of them are joined, and how octets become one."""

from saltmill.blake import MOST_SIZE, QUARTERS, blake_digest, rotate
from saltmill.octets import little
from saltmill.roots import LOW_64
from saltmill.words import little_words, xor_words

WORDS = 128
BLOCK_OCTETS = 1024
LOW_32 = 2 ** 32 - 1
ZERO_BLOCK = (0,) * 128


def number(value):
    """The four octets of a number, the least significant one first."""
    return little(value, 4)


def heavy_sum(a, b):
    """The sum of two words and of twice the product of their lower halves."""
    return (a + b + 2 * (a & LOW_32) * (b & LOW_32)) & LOW_64


def heavy_step(a, b, c, d):
    """Four words after a quarter step without message words."""
    a = heavy_sum(a, b)
    d = rotate(d ^ a, 32)
    c = heavy_sum(c, d)
    b = rotate(b ^ c, 24)
    a = heavy_sum(a, b)
    d = rotate(d ^ a, 16)
    c = heavy_sum(c, d)
    b = rotate(b ^ c, 63)
    return a, b, c, d


def stirred(words):
    """Sixteen words after a stir."""
    v = list(words)
    for a, b, c, d in QUARTERS:
        v[a], v[b], v[c], v[d] = heavy_step(v[a], v[b], v[c], v[d])
    return v


def joined_block(first, second):
    """The block that two blocks give."""
    start = xor_words(first, second)
    words = list(start)
    for k in range(8):
        words[16 * k:16 * k + 16] = stirred(words[16 * k:16 * k + 16])
    for k in range(8):
        places = [16 * row + 2 * k + side for row in range(8) for side in (0, 1)]
        for place, word in zip(places, stirred([words[place] for place in places])):
            words[place] = word
    return xor_words(words, start)


def sized_digest(octets, size):
    """The digest of an octet string, which may have more octets than one of BLAKE2b."""
    framed = number(size) + octets
    if size <= MOST_SIZE:
        return blake_digest(framed, size, ())
    # Of each digest but the last one the first half is taken.
    link = blake_digest(framed, MOST_SIZE, ())
    made = link[:32]
    while size - len(made) > MOST_SIZE:
        link = blake_digest(link, MOST_SIZE, ())
        made = made + link[:32]
    return made + blake_digest(link, size - len(made), ())


def seeded_block(seed, column, lane):
    """The block that stands in one of the first two columns of a lane."""
    octets = sized_digest(seed + number(column) + number(lane), BLOCK_OCTETS)
    return little_words(octets, 8)
