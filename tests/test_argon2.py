"""The pieces of Argon2, and Argon2 as a plain function."""

import random
import unittest

from saltmill.errors import ChoiceError, CostError, LengthError, OctetError
from saltmill.filling import argon2, join_blocks, long_digest
from tests import second_argon2
from tests.common import NO_OCTETS, WRONG_OCTETS, CommonTest, message, octets_of_hex

KINDS = ("d", "i", "id")
RFC_TAGS = {
    "d": "512b391b6f1162975371d30919734294f868e3be3984f3c1a13a4db9fabe4acb",
    "i": "c814d9d1dc7f37aa13f0d77f2494bda1c8de6b016dd388d29952a4c4672b6ce8",
    "id": "0d640df58d78766c08c037a34a8b53c9d01ef0452d75b65eb52520e96b01e659",
}
WRONG_KINDS = tuple((kind, ChoiceError) for kind in ("", "D", "di", "ii", "argon2d", "ID", "0", "sha1"))
WRONG_MEMORY = tuple((memory, CostError) for memory in (15, 8, 0, -1, 4097, 10 ** 30))
WRONG_PASSES = tuple((passes, CostError) for passes in (0, -1, 17, 10 ** 30))
# With the memory 16, which is right for one lane and for two.
WRONG_LANES = tuple((lanes, CostError) for lanes in (0, -1, 3, 8, 9, 10 ** 30))
WRONG_TAG_SIZES = tuple((size, LengthError) for size in (3, 0, -1, 513, 1024, 10 ** 30))
RIGHT = ("id", (1,), (2,) * 8, (3,), (4,), 16, 1, 2, 4)
WRONG = (WRONG_KINDS, WRONG_OCTETS, WRONG_OCTETS, WRONG_OCTETS, WRONG_OCTETS, WRONG_MEMORY, WRONG_PASSES,
         WRONG_LANES, WRONG_TAG_SIZES)


def some_block(start):
    source = random.Random(start)
    return tuple(source.getrandbits(64) for _ in range(128))


class ArgumentsTest(CommonTest):
    """The errors of a function that takes the arguments of argon2."""

    def refuses_arguments(self, function):
        self.raises_in_order(function, RIGHT, WRONG)
        # The greatest memory stands in its own place, and the least one behind the lanes.
        for memory, passes, lanes, size in ((15, 1, 2, 3), (63, 16, 8, 0), (0, 1, 1, 513), (-5, 1, 1, 513)):
            with self.assertRaises(CostError):
                function("d", (), (), (), (), memory, passes, lanes, size)
        for memory, lanes in ((8, 1), (16, 2), (64, 8), (4096, 8), (4096, 1)):
            for passes in (1, 16):
                with self.assertRaises(LengthError):
                    function("d", (), (), (), (), memory, passes, lanes, 3)


class LongDigestTest(CommonTest):
    def test_sizes(self):
        sizes = set(range(1, 140)) | {1023, 1024}
        for middle in range(32, 1025, 32):
            sizes |= {middle - 1, middle, min(middle + 1, 1024)}
        for size in sorted(sizes):
            made = long_digest((1, 2, 3), size)
            self.assertEqual(len(made), size)
            self.assertIsInstance(made, tuple)
            self.assertEqual(made, second_argon2.long_digest((1, 2, 3), size), size)

    def test_octet_strings_of_any_length(self):
        for length in (0, 1, 123, 124, 125, 128, 4092, 4096, 4097, 10000):
            for size in (1, 64, 65, 100):
                self.assertEqual(long_digest(message(length), size),
                                 second_argon2.long_digest(message(length), size))

    def test_wrong_arguments(self):
        sizes = tuple((size, LengthError) for size in (0, -1, 1025, 4096, 10 ** 30))
        self.raises_in_order(long_digest, ((1,), 32),
                             (tuple((value, OctetError) for value in NO_OCTETS), sizes))


class JoinTest(CommonTest):
    def test_blocks(self):
        zero, full = (0,) * 128, (2 ** 64 - 1,) * 128
        for first, second in ((zero, zero), (zero, full), (full, some_block(1)), (some_block(2), zero),
                              (some_block(3), some_block(4)), (some_block(5), some_block(5))):
            made = join_blocks(first, second)
            self.assertIsInstance(made, tuple)
            self.assertEqual(made, second_argon2.join_blocks(first, second))
            self.assertEqual(made, join_blocks(second, first))

    def test_lists(self):
        first, second = list(some_block(6)), list(some_block(7))
        made = join_blocks(first, second)
        self.assertIsInstance(made, tuple)
        self.assertEqual(made, join_blocks(tuple(first), tuple(second)))
        self.assertEqual((first, second), (list(some_block(6)), list(some_block(7))))


class Argon2Test(ArgumentsTest):
    def check(self, kind, strings, memory, passes, lanes, size):
        made = argon2(kind, *strings, memory, passes, lanes, size)
        self.assertIsInstance(made, tuple)
        self.assertEqual(made, second_argon2.argon2(kind, *strings, memory, passes, lanes, size),
                         (kind, memory, passes, lanes, size))

    def test_rfc_9106(self):
        for kind in KINDS:
            arguments = (kind, (1,) * 32, (2,) * 16, (3,) * 8, (4,) * 12, 32, 3, 4, 32)
            self.assertEqual(argon2(*arguments), octets_of_hex(RFC_TAGS[kind]))
            self.assertEqual(second_argon2.argon2(*arguments), octets_of_hex(RFC_TAGS[kind]))

    def test_costs(self):
        strings = (message(9), message(8), (), ())
        for kind in KINDS:
            for memory, passes, lanes in ((8, 1, 1), (8, 2, 1), (9, 3, 1), (11, 1, 1), (12, 2, 1), (16, 2, 2),
                                          (23, 3, 2), (31, 1, 3), (40, 2, 4), (64, 1, 8), (71, 2, 8), (100, 1, 1)):
                self.check(kind, strings, memory, passes, lanes, 16)

    def test_many_passes(self):
        for kind in KINDS:
            self.check(kind, (message(9), message(8), (), ()), 8, 16, 1, 16)

    def test_long_segments(self):
        # A segment of more than 128 columns needs a second address block.
        strings = (message(9), message(8), (), ())
        for kind, memory, passes in (("i", 4 * 128, 1), ("i", 4 * 130, 2), ("id", 4 * 130, 1), ("d", 4 * 130, 1),
                                     ("id", 4 * 260, 1)):
            self.check(kind, strings, memory, passes, 1, 16)
        self.check("i", strings, 2 * 4 * 129, 1, 2, 16)

    def test_sizes(self):
        for size in (4, 5, 16, 32, 63, 64, 65, 96, 97, 500, 512):
            self.check("id", (message(9), message(8), (), ()), 8, 1, 1, size)

    def test_inputs(self):
        for place in range(4):
            for length in (0, 1, 127, 128, 129, 4096):
                strings = [(1,), (2, 2), (3, 3, 3), (4,)]
                strings[place] = message(length)
                self.check("i", strings, 8, 1, 1, 16)
        self.check("d", ((), (), (), ()), 8, 1, 1, 16)
        self.check("d", (message(4096),) * 4, 8, 1, 1, 16)

    def test_memory_that_is_no_multiple(self):
        # The blocks are as many, but the wanted number stands in the seed.
        tags = {argon2("d", (1,), (2,) * 8, (), (), memory, 1, 2, 16) for memory in range(16, 24)}
        self.assertEqual(len(tags), 8)

    def test_wrong_arguments(self):
        self.refuses_arguments(argon2)


if __name__ == "__main__":
    unittest.main()
