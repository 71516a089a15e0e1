"""Words of octets, the least significant octet of each word first."""


def little_words(octets, size):
    """The words of an octet string, which have this number of octets each."""
    words = []
    for at in range(0, len(octets), size):
        word = 0
        for octet in octets[at:at + size][::-1]:
            word = (word << 8) | octet
        words.append(word)
    return tuple(words)


def little_octets(words, size):
    """The octets of words that have this number of octets each."""
    return tuple([(word >> (8 * place)) & 255 for word in words for place in range(size)])


def xor_words(first, second):
    """The words in which the bits of both differ."""
    return tuple([one ^ other for one, other in zip(first, second)])
