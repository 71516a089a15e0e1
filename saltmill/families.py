"""The digests by their names: their numbers, first chains and round constants."""

from math import isqrt

from saltmill.roots import cube_root_fraction, primes, square_root_fraction

NAMES = ("sha1", "sha224", "sha256", "sha384", "sha512")
BLOCK_LENGTHS = {"sha1": 64, "sha224": 64, "sha256": 64, "sha384": 128, "sha512": 128}
WORD_BITS = {"sha1": 32, "sha224": 32, "sha256": 32, "sha384": 64, "sha512": 64}
SIZES = {"sha1": 20, "sha224": 28, "sha256": 32, "sha384": 48, "sha512": 64}
SHA1_CHAIN = (0x67452301, 0xEFCDAB89, 0x98BADCFE, 0x10325476, 0xC3D2E1F0)
LOW_32 = 2 ** 32 - 1


def start_chain(name):
    """The first chain of a digest."""
    if name == "sha1":
        return SHA1_CHAIN
    fractions = [square_root_fraction(prime) for prime in primes(16)]
    if name == "sha224":
        return tuple([fraction & LOW_32 for fraction in fractions[8:]])
    if name == "sha256":
        return tuple([fraction >> 32 for fraction in fractions[:8]])
    if name == "sha384":
        return tuple(fractions[8:])
    return tuple(fractions[:8])


def round_constants(name):
    """The constants k of a digest: one for each round, and of "sha1" one for 20 rounds."""
    if name == "sha1":
        return tuple([isqrt(number << 60) for number in (2, 3, 5, 10)])
    if WORD_BITS[name] == 32:
        return tuple([cube_root_fraction(prime) >> 32 for prime in primes(64)])
    return tuple([cube_root_fraction(prime) for prime in primes(80)])
