"""Prime numbers, and the fractions of their roots, from which words of digests are made."""

from math import isqrt

LOW_64 = 2 ** 64 - 1


def primes(count):
    """The first prime numbers, in ascending order."""
    found = []
    number = 2
    while len(found) < count:
        if all(number % prime for prime in found):
            found.append(number)
        number += 1
    return found


def cube_root(number):
    """The greatest integer whose cube is at most the number, which is positive."""
    # Newton's steps from a start above the root go down until they have reached it.
    root = 1 << (number.bit_length() // 3 + 1)
    while True:
        lower = (2 * root + number // (root * root)) // 3
        if lower >= root:
            return root
        root = lower


def square_root_fraction(prime):
    """The first 64 bits of the fraction of the square root."""
    return isqrt(prime << 128) & LOW_64


def cube_root_fraction(prime):
    """The first 64 bits of the fraction of the cube root."""
    return cube_root(prime << 192) & LOW_64
