"""The derivations, written once more with Python's own digests, for the tests."""

import hashlib
import hmac

from tests.common import SIZES, message

# The shortest name of each derivation, and its strings of ordinary lengths behind the digest's name.
STRINGS = {
    "hkdf": (message(20), message(9)),
    "counter": (message(20), message(9), message(5)),
    "feedback": (message(20), message(7), message(9), message(5)),
    "pipeline": (message(20), message(9), message(5)),
    "one_step": (message(20), message(9)),
    "label": (message(20), message(9), message(5)),
}
SCHEMES = tuple(STRINGS)


def tag(name, key, octets):
    return hmac.new(bytes(key), bytes(octets), name).digest()


def number(value, count):
    return value.to_bytes(count, "big")


def blocks(name, size, block):
    """Blocks by their numbers and the block before, joined and cut."""
    made, previous, place = b"", b"", 0
    while len(made) < size:
        place += 1
        previous = block(place, previous)
        made += previous
    return tuple(made[:size])


def hkdf(name, key, info, size):
    return blocks(name, size, lambda i, previous: tag(name, key, previous + bytes(info) + bytes([i])))


def fixed_part(label, context, size):
    return bytes(label) + b"\0" + bytes(context) + number(8 * size, 4)


def counter(name, key, label, context, size):
    fixed = fixed_part(label, context, size)
    return blocks(name, size, lambda i, previous: tag(name, key, number(i, 4) + fixed))


def feedback(name, key, iv, label, context, size):
    fixed = fixed_part(label, context, size)

    def block(i, previous):
        return tag(name, key, (bytes(iv) if i == 1 else previous) + number(i, 4) + fixed)
    return blocks(name, size, block)


def pipeline(name, key, label, context, size):
    fixed = fixed_part(label, context, size)

    def block(i, previous):
        link = fixed
        for _ in range(i):
            link = tag(name, key, link)
        return tag(name, key, link + number(i, 4) + fixed)
    return blocks(name, size, block)


def one_step(name, secret, info, size):
    def block(i, previous):
        return hashlib.new(name, number(i, 4) + bytes(secret) + bytes(info)).digest()
    return blocks(name, size, block)


def label(name, key, label, context, size):
    full = b"tls13 " + bytes(label)
    info = number(size, 2) + bytes([len(full)]) + full + bytes([len(context)]) + bytes(context)
    return hkdf(name, key, tuple(info), size)


FUNCTIONS = {"hkdf": hkdf, "counter": counter, "feedback": feedback, "pipeline": pipeline,
             "one_step": one_step, "label": label}


def expected(scheme, name, *arguments):
    return FUNCTIONS[scheme](name, *arguments)


def edge_sizes(name):
    block = SIZES[name]
    return (1, 2, block - 1, block, block + 1, 2 * block - 1, 2 * block, 2 * block + 1, 5 * block + 3)
