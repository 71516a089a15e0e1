"""The rounds of the digests: from a chain and the 16 words of a block to the next chain."""

LOW_32 = 2 ** 32 - 1

# By the bits of a word: two rotations and a shift, or three rotations, to the right.
SCHEDULE_NEAR = {32: (7, 18, 3), 64: (1, 8, 7)}
SCHEDULE_FAR = {32: (17, 19, 10), 64: (19, 61, 6)}
CHAIN_FIRST = {32: (2, 13, 22), 64: (28, 34, 39)}
CHAIN_FIFTH = {32: (6, 11, 25), 64: (14, 18, 41)}


def added(chain, words, bits):
    """The sums of the words of two chains."""
    mask = (1 << bits) - 1
    return tuple([(one + other) & mask for one, other in zip(chain, words)])


def rotate(word, places):
    """A word of 32 bits, rotated to the right."""
    return ((word >> places) | (word << (32 - places))) & LOW_32


def short_schedule(words):
    """The 80 words of the schedule of "sha1"."""
    schedule = list(words)
    for t in range(16, 80):
        mixed = schedule[t - 3] ^ schedule[t - 8] ^ schedule[t - 14] ^ schedule[t - 16]
        schedule.append(rotate(mixed, 31))
    return schedule


def short_choice(quarter, b, c, d):
    """The function f of "sha1" in a quarter of its rounds."""
    if quarter == 0:
        return (b & c) ^ (~b & d)
    if quarter == 2:
        return (b & c) ^ (b & d) ^ (c & d)
    return b ^ c ^ d


def short_rounds(constants, chain, words):
    """The next chain of "sha1"."""
    a, b, c, d, e = chain
    for t, word in enumerate(short_schedule(words)):
        quarter = t // 20
        total = rotate(a, 27) + short_choice(quarter, b, c, d) + e + constants[quarter] + word
        a, b, c, d, e = total & LOW_32, a, rotate(b, 2), c, d
    return added(chain, (a, b, c, d, e), 32)


def long_schedule(words, many, bits):
    """The words of the schedule of the other digests, one for each round."""
    mask = (1 << bits) - 1
    near_one, near_two, near_shift = SCHEDULE_NEAR[bits]
    far_one, far_two, far_shift = SCHEDULE_FAR[bits]
    schedule = list(words)
    for t in range(16, many):
        # A word that stands twice side by side, shifted, is the word rotated.
        near = schedule[t - 15]
        pair = near | (near << bits)
        near = (pair >> near_one) ^ (pair >> near_two) ^ (near >> near_shift)
        far = schedule[t - 2]
        pair = far | (far << bits)
        far = (pair >> far_one) ^ (pair >> far_two) ^ (far >> far_shift)
        schedule.append(((far & mask) + schedule[t - 7] + (near & mask) + schedule[t - 16]) & mask)
    return schedule


def long_rounds(constants, chain, words, bits):
    """The next chain of the other digests."""
    mask = (1 << bits) - 1
    first_one, first_two, first_three = CHAIN_FIRST[bits]
    fifth_one, fifth_two, fifth_three = CHAIN_FIFTH[bits]
    a, b, c, d, e, f, g, h = chain
    for k, word in zip(constants, long_schedule(words, len(constants), bits)):
        pair = e | (e << bits)
        fifth = ((pair >> fifth_one) ^ (pair >> fifth_two) ^ (pair >> fifth_three)) & mask
        x = h + fifth + ((e & f) ^ (~e & g)) + k + word
        pair = a | (a << bits)
        first = ((pair >> first_one) ^ (pair >> first_two) ^ (pair >> first_three)) & mask
        y = first + ((a & b) ^ (a & c) ^ (b & c))
        a, b, c, d, e, f, g, h = (x + y) & mask, a, b, c, (d + x) & mask, e, f, g
    return added(chain, (a, b, c, d, e, f, g, h), bits)
