"""The steps of jobs, by their kinds.

A work makes the step behind a number of others and returns the octets of the output that are ready
with it. It is told this number each time, so that it holds only what the next step needs. A work of
PBKDF2 is made of its links.
"""

from saltmill.derivations import Derivation
from saltmill.forms import kept_lengths, named_parts, pace
from saltmill.matrix import SLICES, Matrix
from saltmill.mixing import Mixer
from saltmill.stretching import Links, first_link
from saltmill.words import little_octets, little_words


class DerivationWork:
    """The steps of a derivation from a strong key: each makes a block."""

    def __init__(self, derivation):
        self._derivation = derivation
        self._held = derivation.first_held()

    def step(self, done):
        """Make the step behind so many others; the octets that are ready with it."""
        self._held = self._derivation.next_held(done + 1, self._held)
        return self._derivation.block(self._held)

    def numbers(self, done):
        """What is held behind so many steps."""
        return self._held if done > 0 else ()

    def restore(self, words, done):
        """Take what is held behind so many steps from a saved text."""
        if done > 0:
            self._held = words.numbers(self._derivation.held_length(), 255)


class ScryptWork:
    """The steps of scrypt: links that make the strings, their mixing, and links of the output."""

    def __init__(self, request, key, salt):
        parts = named_parts(request)
        self._n = parts["n"]
        self._gap = parts["gap"]
        self._key = key
        self._salt = salt
        self._string_length = 128 * parts["r"]
        self._mixing_steps = self._n + self._n * self._gap
        # The steps before the links of the output, and those before the mixing.
        self._before, _, self._block = pace(request)
        self._links = self._before - parts["p"] * self._mixing_steps
        # All strings in order, as far as they are made; those that are mixed stand so.
        self._strings = ()
        self._mixer = None

    def step(self, done):
        """Make the step behind so many others; the octets that are ready with it."""
        if done < self._links:
            self._strings = self._strings + first_link(self._key, self._salt, done + 1)
            return ()
        if done < self._before:
            self._mix(done - self._links)
            return ()
        return first_link(self._key, self._strings, done - self._before + 1)

    def _mix(self, done):
        index, place = divmod(done, self._mixing_steps)
        start = index * self._string_length
        end = start + self._string_length
        if place == 0:
            self._begin_mixing(little_words(self._strings[start:end], 4))
        self._mixer.run(1)
        if self._mixer.left == 0:
            string = little_octets(self._mixer.result(), 4)
            self._strings = self._strings[:start] + string + self._strings[end:]
            self._mixer = None

    def _begin_mixing(self, row):
        self._mixer = Mixer(row, self._n, gap=self._gap)

    def numbers(self, done):
        """What is held behind so many steps."""
        if self._mixer is None:
            return self._strings
        return list(self._strings) + self._mixer.numbers()

    def restore(self, words, done):
        """Take what is held behind so many steps from a saved text."""
        self._strings = words.numbers(self._block * min(done, self._links), 255)
        place = (done - self._links) % self._mixing_steps
        if self._links < done < self._before and place > 0:
            self._begin_mixing((0,) * (self._string_length // 4))
            self._mixer.restore(words, place)


class FillingWork:
    """The steps of Argon2: each fills a block, slice by slice, and in a slice lane by lane."""

    def __init__(self, request, seed):
        parts = named_parts(request)
        self._size = parts["size"]
        self._lanes = parts["lanes"]
        self._matrix = Matrix(parts["kind"], parts["memory"], parts["passes"], self._lanes, seed)

    def step(self, done):
        """Make the step behind so many others; the octets that are ready with it."""
        self._matrix.fill_next(done // self._matrix.width % self._lanes)
        return self._matrix.tag(self._size) if done + 1 == self._matrix.total else ()

    def numbers(self, done):
        """What is held behind so many steps."""
        return self._matrix.block_words() if done < self._matrix.total else ()

    def restore(self, words, done):
        """Take what is held behind so many steps from a saved text."""
        if done < self._matrix.total:
            width = self._matrix.width
            slices, place = divmod(done, self._lanes * width)
            filled = [min(max(place - lane * width, 0), width) for lane in range(self._lanes)]
            self._matrix.restore(words, slices // SLICES, slices % SLICES, filled)


def pieces_of(octets, lengths):
    """The pieces of these lengths that follow one another in an octet string."""
    pieces = []
    for length in lengths:
        pieces.append(octets[:length])
        octets = octets[length:]
    return pieces


def new_work(request, absorbed, kept):
    """The work of a request, by what its inputs were absorbed into and by those that are kept."""
    if request[0] == "argon2":
        return FillingWork(request, absorbed)
    if request[0] == "scrypt":
        return ScryptWork(request, absorbed, kept)
    scheme, name, size = request[0], request[1], request[-1]
    if scheme == "pbkdf2":
        return Links(name, absorbed, kept, named_parts(request)["rounds"])
    strings = pieces_of(kept, kept_lengths(request))
    if scheme != "one_step":
        strings = [absorbed] + strings
    return DerivationWork(Derivation((scheme, name, *strings, size)))
