"""scrypt and its mixing, written once more after RFC 7914, for the tests."""

import hashlib

# Which word is changed by the sum of which two, rotated by how many places: a double round.
LINES = (
    (4, 0, 12, 7), (8, 4, 0, 9), (12, 8, 4, 13), (0, 12, 8, 18),
    (9, 5, 1, 7), (13, 9, 5, 9), (1, 13, 9, 13), (5, 1, 13, 18),
    (14, 10, 6, 7), (2, 14, 10, 9), (6, 2, 14, 13), (10, 6, 2, 18),
    (3, 15, 11, 7), (7, 3, 15, 9), (11, 7, 3, 13), (15, 11, 7, 18),
    (1, 0, 3, 7), (2, 1, 0, 9), (3, 2, 1, 13), (0, 3, 2, 18),
    (6, 5, 4, 7), (7, 6, 5, 9), (4, 7, 6, 13), (5, 4, 7, 18),
    (11, 10, 9, 7), (8, 11, 10, 9), (9, 8, 11, 13), (10, 9, 8, 18),
    (12, 15, 14, 7), (13, 12, 15, 9), (14, 13, 12, 13), (15, 14, 13, 18),
)


def salsa(words):
    x = list(words)
    for _ in range(4):
        for target, one, other, places in LINES:
            total = (x[one] + x[other]) % 2 ** 32
            x[target] ^= (total << places | total >> (32 - places)) % 2 ** 32
    return tuple((x[k] + words[k]) % 2 ** 32 for k in range(16))


def block_mix(words):
    pieces = [words[at:at + 16] for at in range(0, len(words), 16)]
    x = pieces[-1]
    noted = []
    for piece in pieces:
        x = salsa([one ^ other for one, other in zip(x, piece)])
        noted.append(x)
    return sum(noted[::2], ()) + sum(noted[1::2], ())


def wanted(row, n):
    """The number j of a row."""
    return (row[-16] + 2 ** 32 * row[-15]) % n


def mix(words, n):
    x, rows = tuple(words), []
    for _ in range(n):
        rows.append(x)
        x = block_mix(x)
    for _ in range(n):
        row = rows[wanted(x, n)]
        x = block_mix([one ^ other for one, other in zip(x, row)])
    return x


def numbers_of_mixer(words, n, gap, steps):
    """The numbers that the text of a mixer has behind so many steps."""
    x, kept, t = tuple(words), [], ()
    for step in range(min(steps, n)):
        if step % gap == 0:
            kept.append(x)
        x = block_mix(x)
    for step in range(max(steps - n, 0)):
        place = step % gap
        if place == 0:
            q, e = divmod(wanted(x, n), gap)
            t = kept[q]
        if place == gap - 1:
            x = block_mix([one ^ other for one, other in zip(x, t)])
            t = ()
        elif place < e:
            t = block_mix(t)
    return (len(words) // 32, n, gap, steps) + x + sum(kept, ()) + t


def from_octets(octets):
    return tuple(int.from_bytes(octets[at:at + 4], "little") for at in range(0, len(octets), 4))


def scrypt(password, salt, n, r, p, size):
    password, salt = bytes(password), bytes(salt)
    strings = hashlib.pbkdf2_hmac("sha256", password, salt, 1, 128 * r * p)
    mixed = b""
    for at in range(0, len(strings), 128 * r):
        for word in mix(from_octets(strings[at:at + 128 * r]), n):
            mixed += word.to_bytes(4, "little")
    return tuple(hashlib.pbkdf2_hmac("sha256", password, mixed, 1, size))
