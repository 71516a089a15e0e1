"""PBKDF2 as a plain function, held against Python's own."""

import hashlib
import unittest

from saltmill.codes import hmac
from saltmill.errors import CostError, LengthError
from saltmill.octets import xor
from saltmill.stretching import pbkdf2
from tests.common import (BLOCKS, NAMES, SIZES, WRONG_NAMES, WRONG_OCTETS, WRONG_SIZES, CommonTest, message,
                          octets_of, octets_of_hex)
from tests.derivations import edge_sizes

WRONG_ROUNDS = tuple((rounds, CostError) for rounds in (0, -1, -1000000, 1000001, 2000000, 10 ** 30))


def expected(name, password, salt, rounds, size):
    return tuple(hashlib.pbkdf2_hmac(name, bytes(password), bytes(salt), rounds, size))


class KnownAnswersTest(CommonTest):
    def test_rfc_6070(self):
        password, salt = octets_of("password"), octets_of("salt")
        self.assertEqual(pbkdf2("sha1", password, salt, 1, 20),
                         octets_of_hex("0c60c80f961f0e71f3a9b524af6012062fe037a6"))
        self.assertEqual(pbkdf2("sha1", password, salt, 4096, 20),
                         octets_of_hex("4b007901b765489abead49d926f721d065a429c1"))

    def test_rfc_7914(self):
        self.assertEqual(pbkdf2("sha256", octets_of("passwd"), octets_of("salt"), 1, 64), octets_of_hex(
            "55ac046e56e3089fec1691c22544b605f94185216dde0465e68b9d57c20dacbc"
            "49ca9cccf179b645991664b39d77ef317c71b845b1e30bd509112041d3a19783"))


class PlainTest(CommonTest):
    def check(self, name, password, salt, rounds, size):
        made = pbkdf2(name, password, salt, rounds, size)
        self.assertIsInstance(made, tuple)
        self.assertEqual(made, expected(name, password, salt, rounds, size), (name, rounds, size))

    def test_sizes(self):
        for name in NAMES:
            for size in edge_sizes(name):
                for rounds in (1, 2, 3):
                    self.check(name, message(8), message(9), rounds, size)

    def test_the_greatest_size(self):
        for name in NAMES:
            for size in (4095, 4096):
                self.check(name, message(8), message(9), 2, size)

    def test_rounds(self):
        for name in NAMES:
            for rounds in (1, 2, 3, 4, 5, 10, 100):
                self.check(name, message(8), message(9), rounds, SIZES[name] + 1)

    def test_passwords(self):
        for name in NAMES:
            block = BLOCKS[name]
            for length in (0, 1, block - 1, block, block + 1, 300, 4095, 4096):
                self.check(name, message(length), message(9), 2, SIZES[name] + 1)

    def test_salts(self):
        for name in NAMES:
            block = BLOCKS[name]
            for length in (0, 1, block - 5, block - 4, block - 3, block, 300, 4095, 4096):
                self.check(name, message(8), message(length), 2, SIZES[name] + 1)

    def test_nothing_at_all(self):
        for name in NAMES:
            self.check(name, (), (), 1, 1)
            self.check(name, (), (), 3, 100)

    def test_a_block_by_its_links(self):
        for name in NAMES:
            links = [hmac(name, (1, 2), (3, 0, 0, 0, 2))]
            for _ in range(4):
                links.append(hmac(name, (1, 2), links[-1]))
            block = links[0]
            for link in links[1:]:
                block = xor(block, link)
            size = SIZES[name]
            self.assertEqual(pbkdf2(name, (1, 2), (3,), 5, 2 * size)[size:], block)

    def test_wrong_arguments(self):
        self.raises_in_order(pbkdf2, ("sha1", (1,), (2,), 1, 30),
                             (WRONG_NAMES, WRONG_OCTETS, WRONG_OCTETS, WRONG_ROUNDS, WRONG_SIZES))

    def test_the_greatest_number_of_rounds(self):
        # A million rounds are allowed, so it is the size that is wrong.
        for rounds in (1, 999999, 1000000):
            with self.assertRaises(LengthError):
                pbkdf2("sha1", (), (), rounds, 4097)


if __name__ == "__main__":
    unittest.main()
