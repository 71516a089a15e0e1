"""The matrix of Argon2: its blocks, and how far each lane is filled."""

from saltmill.blocks import LOW_32, WORDS, ZERO_BLOCK, joined_block, seeded_block, sized_digest
from saltmill.roots import LOW_64
from saltmill.words import little_octets, xor_words

# The number of a kind is its place.
KINDS = ("d", "i", "id")
SLICES = 4


def segment_width(memory, lanes):
    """The number of columns of a segment."""
    return memory // (SLICES * lanes)


class Matrix:
    """The lanes of a filling that a seed began."""

    def __init__(self, kind, memory, passes, lanes, seed):
        self.kind = kind
        self.passes = passes
        self.seed = seed
        self.width = segment_width(memory, lanes)
        self.columns = SLICES * self.width
        self.total = passes * lanes * self.columns
        self.made = 0
        self.pass_number = 0
        self.slice_number = 0
        # By the lane: how many blocks of its current segment are filled.
        self.filled = [0] * lanes
        self._rows = [[] for _ in range(lanes)]
        # By the lane: the address block that was used last, behind its number.
        self._addresses = {}

    def free(self, lane):
        """How many blocks of a lane can be filled in the current slice."""
        return self.width - self.filled[lane] if self.made < self.total else 0

    def fill_next(self, lane):
        """Fill the next block of a lane, in which one is free."""
        row = self._rows[lane]
        column = self.slice_number * self.width + self.filled[lane]
        block = self._next_block(lane, column)
        if self.pass_number == 0:
            row.append(block)
        else:
            row[column] = xor_words(block, row[column])
        self.made += 1
        self.filled[lane] += 1
        if min(self.filled) == self.width:
            self._begin_slice()

    def _begin_slice(self):
        self.pass_number, self.slice_number = divmod(
            SLICES * self.pass_number + self.slice_number + 1, SLICES)
        self.filled = [0] * len(self.filled)
        self._addresses = {}

    def _next_block(self, lane, column):
        if self.pass_number == 0 and column < 2:
            return seeded_block(self.seed, column, lane)
        # The block before the first column is the one in the last column.
        previous = self._rows[lane][column - 1]
        return joined_block(previous, self._reference(lane, previous))

    def _reference(self, lane, previous):
        index = self.filled[lane]
        word = self._address(lane, index) if self._is_addressed() else previous[0]
        low, high = word & LOW_32, word >> 32
        other = high % len(self._rows)
        if self.pass_number == 0 and self.slice_number == 0:
            other = lane
        return self._rows[other][self._reference_column(index, low, other == lane)]

    def _is_addressed(self):
        if self.kind == "id":
            return self.pass_number == 0 and self.slice_number < 2
        return self.kind == "i"

    def _address(self, lane, index):
        number = index // WORDS + 1
        if lane not in self._addresses or self._addresses[lane][0] != number:
            self._addresses[lane] = (number, self._address_block(lane, number))
        return self._addresses[lane][1][index % WORDS]

    def _address_block(self, lane, number):
        words = (self.pass_number, lane, self.slice_number, len(self._rows) * self.columns,
                 self.passes, KINDS.index(self.kind), number)
        block = words + (0,) * (WORDS - len(words))
        return joined_block(ZERO_BLOCK, joined_block(ZERO_BLOCK, block))

    def _reference_column(self, index, low, is_own):
        if self.pass_number == 0:
            first, choices = 0, self.slice_number * self.width
        else:
            first, choices = (self.slice_number + 1) * self.width, 3 * self.width
        if is_own:
            choices += index - 1
        elif index == 0:
            choices -= 1
        # The nearer a block, the more often it is chosen.
        back = (choices * ((low * low) >> 32)) >> 32
        return (first + choices - 1 - back) % self.columns

    def tag(self, size):
        """The tag of this size, when all blocks are filled."""
        last = ZERO_BLOCK
        for row in self._rows:
            last = xor_words(last, row[-1])
        return sized_digest(little_octets(last, 8), size)

    def block_words(self):
        """The words of all blocks that are filled, lane by lane."""
        return [word for row in self._rows for block in row for word in block]

    def restore(self, words, pass_number, slice_number, filled):
        """Take the blocks that are filled at this place from a saved text."""
        self.pass_number = pass_number
        self.slice_number = slice_number
        self.filled = list(filled)
        slices = SLICES * pass_number + slice_number
        self.made = slices * self.width * len(filled) + sum(filled)
        for lane, many in enumerate(filled):
            held = slice_number * self.width + many if pass_number == 0 else self.columns
            self._rows[lane] = [words.numbers(WORDS, LOW_64) for _ in range(held)]
