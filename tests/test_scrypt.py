"""The pieces and rows of scrypt, and scrypt as a plain function."""

import hashlib
import random
import unittest
from unittest import mock

from saltmill import mixing
from saltmill.errors import CostError, LengthError
from saltmill.mixing import block_mix, mix, salsa, scrypt
from tests import second_scrypt
from tests.common import WRONG_OCTETS, WRONG_SIZES, CommonTest, message, octets_of, octets_of_hex

# From RFC 7914, chapters 8 to 10.
SALSA_BEFORE = (
    "7e879a214f3ec9867ca940e641718f26baee555b8c61c1b50df846116dcd3b1d"
    "ee24f319df9b3d8514121e4b5ac5aa3276021d2909c74829edebc68db8b8c25e")
SALSA_BEHIND = (
    "a41f859c6608cc993b81cacb020cef05044b2181a2fd337dfd7b1c6396682f29"
    "b4393168e3c9e6bcfe6bc5b7a06d96bae424cc102c91745c24ad673dc7618f81")
ROW = (
    "f7ce0b653d2d72a4108cf5abe912ffdd777616dbbb27a70e8204f3ae2d0f6fad"
    "89f68f4811d1e87bcc3bd7400a9ffd29094f0184639574f39ae5a1315217bcd7"
    "894991447213bb226c25b54da86370fbcd984380374666bb8ffcb5bf40c254b0"
    "67d27c51ce4ad5fed829c90b505a571b7f4d1cad6a523cda770e67bceaaf7e89")
ROW_BEHIND = (
    "a41f859c6608cc993b81cacb020cef05044b2181a2fd337dfd7b1c6396682f29"
    "b4393168e3c9e6bcfe6bc5b7a06d96bae424cc102c91745c24ad673dc7618f81"
    "20edc975323881a80540f64c162dcd3c21077cfe5f8d5fe2b1a4168f953678b7"
    "7d3b3d803b60e4ab920996e59b4d53b65d2a225877d5edf5842cb9f14eefe425")
ROW_MIXED = (
    "79ccc193629debca047f0b70604bf6b62ce3dd4a9626e355fafc6198e6ea2b46"
    "d58413673b99b029d665c357601fb426a0b2f4bba200ee9f0a43d19b571a9c71"
    "ef1142e65d5a266fddca832ce59faa7cac0b9cf1be2bffca300d01ee387619c4"
    "ae12fd4438f203a0e4e1c47ec314861f4e9087cb33396a6873e8f9d2539a4b8e")

WRONG_WORDS = (-1, 2 ** 32, 2 ** 64, 10 ** 30)
WRONG_N = tuple((n, CostError) for n in (0, 1, 3, 5, 6, 12, -2, -4, 100, 65535, 65537, 131072, 2 ** 40))
WRONG_R = tuple((r, CostError) for r in (0, 9, -1, 16, 10 ** 30))
ROWS = tuple((tuple(range(length)), LengthError) for length in
             (0, 1, 16, 31, 33, 48, 64 + 16, 255, 257, 288, 512))
WRONG_ROWS = ROWS + tuple(((7,) * 31 + (word,), LengthError) for word in WRONG_WORDS)


def words_of(digits):
    return second_scrypt.from_octets(bytes.fromhex(digits))


def some_words(many, start=0):
    source = random.Random(many * 1000 + start)
    return tuple(source.getrandbits(32) for _ in range(many))


class PiecesTest(CommonTest):
    def test_known_answers(self):
        self.assertEqual(salsa(words_of(SALSA_BEFORE)), words_of(SALSA_BEHIND))
        self.assertEqual(block_mix(words_of(ROW)), words_of(ROW_BEHIND))
        self.assertEqual(mix(words_of(ROW), 16), words_of(ROW_MIXED))

    def test_example(self):
        self.assertEqual(salsa((0,) * 16), (0,) * 16)

    def test_salsa(self):
        edges = [(value,) * 16 for value in (0, 1, 2 ** 31, 2 ** 32 - 1)]
        for words in edges + [some_words(16, start) for start in range(30)]:
            made = salsa(words)
            self.assertEqual(made, second_scrypt.salsa(words))
            self.assertIsInstance(made, tuple)

    def test_block_mix(self):
        for r in range(1, 9):
            for words in (some_words(32 * r), (2 ** 32 - 1,) * 32 * r):
                made = block_mix(words)
                self.assertEqual(made, second_scrypt.block_mix(words))
                self.assertIsInstance(made, tuple)

    def test_mix(self):
        for r, n in ((1, 2), (1, 4), (1, 16), (1, 64), (2, 8), (3, 2), (5, 4), (8, 2), (8, 8)):
            words = some_words(32 * r, n)
            made = mix(words, n)
            self.assertEqual(made, second_scrypt.mix(words, n))
            self.assertIsInstance(made, tuple)

    def test_lists(self):
        for function, arguments in ((salsa, ()), (block_mix, ()), (mix, (4,))):
            words = list(some_words(16 if function is salsa else 64))
            before = list(words)
            made = function(words, *arguments)
            self.assertEqual(made, function(tuple(words), *arguments))
            self.assertIsInstance(made, tuple)
            self.assertEqual(words, before)

    def test_wrong_pieces(self):
        for length in (0, 1, 15, 17, 32):
            for kind in (tuple, list):
                with self.assertRaises(LengthError):
                    salsa(kind(some_words(length)))
        for word in WRONG_WORDS:
            for place in (0, 7, 15):
                words = list(some_words(16))
                words[place] = word
                with self.assertRaises(LengthError):
                    salsa(words)

    def test_wrong_rows(self):
        self.raises_in_order(block_mix, (some_words(32),), (WRONG_ROWS,))
        self.raises_in_order(mix, (some_words(32), 4), (WRONG_ROWS, WRONG_N))

    def test_n_and_r_together(self):
        for r, n in ((2, 65536), (8, 16384), (3, 32768), (4, 32768), (8, 65536)):
            with self.assertRaises(CostError):
                mix(some_words(32 * r), n)

    def test_n_and_r_just_inside(self):
        # The mixing itself, which would take long, is left out.
        with mock.patch.object(mixing, "mixed_row", lambda row, n: (row, n)):
            for r, n in ((1, 65536), (2, 32768), (3, 16384), (4, 16384), (5, 8192), (8, 8192)):
                words = some_words(32 * r)
                self.assertEqual(mix(words, n), (words, n))


class ScryptTest(CommonTest):
    def check(self, password, salt, n, r, p, size):
        made = scrypt(password, salt, n, r, p, size)
        self.assertIsInstance(made, tuple)
        self.assertEqual(made, second_scrypt.scrypt(password, salt, n, r, p, size), (n, r, p, size))
        if hasattr(hashlib, "scrypt"):
            expected = hashlib.scrypt(bytes(password), salt=bytes(salt), n=n, r=r, p=p, dklen=size)
            self.assertEqual(bytes(made), expected, (n, r, p, size))

    def test_rfc_7914(self):
        self.assertEqual(scrypt((), (), 16, 1, 1, 64), octets_of_hex(
            "77d6576238657b203b19ca42c18a0497f16b4844e3074ae8dfdffa3fede21442"
            "fcd0069ded0948f8326a753a0fc81f17e8d3e0fb2e0d3628cf35e20c38d18906"))

    def test_costs(self):
        for n in (2, 4, 8, 16, 32, 128):
            self.check(octets_of("password"), octets_of("NaCl"), n, 1, 1, 40)
        for r in range(1, 9):
            self.check(octets_of("password"), octets_of("NaCl"), 4, r, 1, 40)
        for p in range(1, 9):
            self.check(octets_of("password"), octets_of("NaCl"), 2, 1, p, 40)
        for n, r, p in ((8, 3, 2), (4, 8, 8), (16, 2, 3)):
            self.check(octets_of("password"), octets_of("NaCl"), n, r, p, 40)

    def test_sizes(self):
        for size in (1, 2, 31, 32, 33, 64, 100, 4095, 4096):
            self.check((1, 2), (3,), 2, 1, 1, size)

    def test_passwords_and_salts(self):
        for length in (0, 1, 63, 64, 65, 1000, 4096):
            self.check(message(length), (3,), 2, 1, 1, 20)
            self.check((1, 2), message(length), 2, 1, 1, 20)

    def test_wrong_arguments(self):
        self.raises_in_order(scrypt, ((1,), (2,), 2, 1, 1, 8),
                             (WRONG_OCTETS, WRONG_OCTETS, WRONG_N, WRONG_R, WRONG_R, WRONG_SIZES))

    def test_n_and_r_together_come_last(self):
        for n, r in ((65536, 2), (65536, 8), (16384, 8), (32768, 3)):
            with self.assertRaises(CostError):
                scrypt((1,), (2,), n, r, 1, 8)
            for arguments, error in ((((1,), (2,), n, r, 1, 0), LengthError),
                                     (((1,), (2,), n, r, 9, 8), CostError),
                                     (((1,), (0,) * 4097, n, r, 1, 8), LengthError)):
                with self.assertRaises(error):
                    scrypt(*arguments)

    def test_costs_just_inside(self):
        # All costs are right, so it is the size that is wrong.
        for n, r, p in ((65536, 1, 8), (32768, 2, 1), (16384, 4, 1), (8192, 8, 1), (2, 8, 8)):
            with self.assertRaises(LengthError):
                scrypt((), (), n, r, p, 4097)


if __name__ == "__main__":
    unittest.main()
