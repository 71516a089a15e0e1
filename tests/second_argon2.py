"""Argon2, written once more after RFC 9106 with Python's own BLAKE2b, for the tests."""

import hashlib

KINDS = {"d": 0, "i": 1, "id": 2}
ALL = 2 ** 64 - 1
LOW = 2 ** 32 - 1


def little(number, size=4):
    return number.to_bytes(size, "little")


def long_digest(octets, size):
    octets = little(size) + bytes(octets)
    if size <= 64:
        return tuple(hashlib.blake2b(octets, digest_size=size).digest())
    count = -(-size // 32) - 2
    links = [hashlib.blake2b(octets).digest()]
    for _ in range(count - 1):
        links.append(hashlib.blake2b(links[-1]).digest())
    last = hashlib.blake2b(links[-1], digest_size=size - 32 * count).digest()
    return tuple(b"".join(link[:32] for link in links) + last)


def quarter(v, a, b, c, d):
    for left, right in ((32, 24), (16, 63)):
        v[a] = (v[a] + v[b] + 2 * (v[a] & LOW) * (v[b] & LOW)) & ALL
        v[d] ^= v[a]
        v[d] = (v[d] >> left | v[d] << (64 - left)) & ALL
        v[c] = (v[c] + v[d] + 2 * (v[c] & LOW) * (v[d] & LOW)) & ALL
        v[b] ^= v[c]
        v[b] = (v[b] >> right | v[b] << (64 - right)) & ALL


def stir(z, places):
    v = [z[place] for place in places]
    for k in range(4):
        quarter(v, k, 4 + k, 8 + k, 12 + k)
    for k in range(4):
        quarter(v, k, 4 + (k + 1) % 4, 8 + (k + 2) % 4, 12 + (k + 3) % 4)
    for place, word in zip(places, v):
        z[place] = word


def join_blocks(first, second):
    r = [one ^ other for one, other in zip(first, second)]
    z = list(r)
    for row in range(8):
        stir(z, range(16 * row, 16 * row + 16))
    for column in range(8):
        stir(z, [16 * row + 2 * column + side for row in range(8) for side in (0, 1)])
    return tuple(one ^ other for one, other in zip(z, r))


def words_of(octets):
    octets = bytes(octets)
    return tuple(int.from_bytes(octets[at:at + 8], "little") for at in range(0, len(octets), 8))


def seed_of(kind, password, salt, secret, data, memory, passes, lanes, size):
    octets = b"".join(little(number) for number in (lanes, size, memory, passes, 19, KINDS[kind]))
    for string in (password, salt, secret, data):
        octets += little(len(string)) + bytes(string)
    return tuple(hashlib.blake2b(octets).digest())


def address_words(kind, lane, slice_number, pass_number, lanes, columns, passes):
    """The words f and g of a whole segment, from all of its address blocks."""
    words, zero = [], (0,) * 128
    for number in range(1, columns // 4 // 128 + 2):
        block = (pass_number, lane, slice_number, lanes * columns, passes, KINDS[kind], number)
        words.extend(join_blocks(zero, join_blocks(zero, block + (0,) * 121)))
    return words


def reference(columns, lanes, pass_number, slice_number, lane, k, word):
    """The lane and the column of a reference block, found in a list of all that may be chosen."""
    width = columns // 4
    other = lane if (pass_number, slice_number) == (0, 0) else (word >> 32) % lanes
    # The columns from the oldest to the newest one, those of the current slice left out.
    if pass_number == 0:
        choices = list(range(slice_number * width))
    else:
        choices = [column % columns for column in range((slice_number + 1) * width, (slice_number + 4) * width)]
    if other == lane:
        # The blocks of this segment that are done join them; the previous block is left out.
        choices = (choices + list(range(slice_number * width, slice_number * width + k)))[:-1]
    elif k == 0:
        choices = choices[:-1]
    low = word & LOW
    back = len(choices) * (low ** 2 // 2 ** 32) // 2 ** 32
    return other, choices[len(choices) - 1 - back]


def all_blocks(kind, strings, memory, passes, lanes, size):
    """Every block that is ever made, by its pass, its lane and its column."""
    columns = 4 * (memory // (4 * lanes))
    width = columns // 4
    seed = seed_of(kind, *strings, memory, passes, lanes, size)
    made, latest = {}, {}
    for pass_number in range(passes):
        for slice_number in range(4):
            early = pass_number == 0 and slice_number < 2
            addressed = kind == "i" or kind == "id" and early
            for lane in range(lanes):
                if addressed:
                    words = address_words(kind, lane, slice_number, pass_number, lanes, columns, passes)
                for k in range(width):
                    column = slice_number * width + k
                    if pass_number == 0 and column < 2:
                        octets = long_digest(bytes(seed) + little(column) + little(lane), 1024)
                        block = words_of(octets)
                    else:
                        previous = latest[lane, (column - 1) % columns]
                        word = words[k] if addressed else previous[0]
                        place = reference(columns, lanes, pass_number, slice_number, lane, k, word)
                        block = join_blocks(previous, latest[place])
                    if pass_number > 0:
                        block = tuple(a ^ b for a, b in zip(block, latest[lane, column]))
                    latest[lane, column] = made[pass_number, lane, column] = block
    return made


def tag_of(blocks, memory, passes, lanes, size):
    """The tag, from all blocks."""
    columns = 4 * (memory // (4 * lanes))
    last = [0] * 128
    for lane in range(lanes):
        last = [a ^ b for a, b in zip(last, blocks[passes - 1, lane, columns - 1])]
    return long_digest(b"".join(little(word, 8) for word in last), size)


def argon2(kind, password, salt, secret, data, memory, passes, lanes, size):
    blocks = all_blocks(kind, (password, salt, secret, data), memory, passes, lanes, size)
    return tag_of(blocks, memory, passes, lanes, size)
