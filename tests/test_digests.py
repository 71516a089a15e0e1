import hashlib
import unittest

from saltmill.digests import (Digest, block_length, compress, digest, digest_size, first_chain,
                              restore_digest)
from saltmill.errors import ChoiceError, LengthError, OctetError

NAMES = ("sha1", "sha224", "sha256", "sha384", "sha512")
LONG = ("sha384", "sha512")
NO_NAMES = ("", "sha", "SHA1", "Sha256", "sha256 ", " sha256", "sha 256", "sha-256", "sha2", "256",
            "sha5122", "sha51", "md5", "sha3_256", "blake2b", "digest", "sha1\n", "sha1 sha224",
            "sha1sha224", "SHA512")


def message(size):
    return tuple((size * 17 + place * 101 + place * place) % 256 for place in range(size))


def expected(name, octets):
    return tuple(hashlib.new(name, bytes(octets)).digest())


def hex_words(chain):
    return " ".join(f"{word:08x}" for word in chain)


class NamesTest(unittest.TestCase):
    def test_numbers(self):
        lengths = [block_length(name) for name in NAMES]
        self.assertEqual(lengths, [64, 64, 64, 128, 128])
        self.assertEqual([digest_size(name) for name in NAMES], [20, 28, 32, 48, 64])
        self.assertEqual([len(first_chain(name)) for name in NAMES], [5, 8, 8, 8, 8])

    def test_unknown_names(self):
        for name in NO_NAMES:
            for function in (block_length, digest_size, first_chain, Digest):
                with self.assertRaises(ChoiceError, msg=name):
                    function(name)

    def test_choice_error_comes_first(self):
        for name in NO_NAMES:
            for octets in ((), None, [1], (256,), (0,) * 5000):
                with self.assertRaises(ChoiceError, msg=name):
                    digest(name, octets)
                with self.assertRaises(ChoiceError, msg=name):
                    compress(name, (0,) * 8, octets)


class FirstChainTest(unittest.TestCase):
    def test_sha1(self):
        words = "67452301 efcdab89 98badcfe 10325476 c3d2e1f0"
        self.assertEqual(hex_words(first_chain("sha1")), words)

    def test_sha224(self):
        words = "c1059ed8 367cd507 3070dd17 f70e5939 ffc00b31 68581511 64f98fa7 befa4fa4"
        self.assertEqual(hex_words(first_chain("sha224")), words)

    def test_sha256(self):
        words = "6a09e667 bb67ae85 3c6ef372 a54ff53a 510e527f 9b05688c 1f83d9ab 5be0cd19"
        self.assertEqual(hex_words(first_chain("sha256")), words)

    def test_sha384(self):
        words = ("cbbb9d5dc1059ed8 629a292a367cd507 9159015a3070dd17 152fecd8f70e5939 "
                 "67332667ffc00b31 8eb44a8768581511 db0c2e0d64f98fa7 47b5481dbefa4fa4")
        self.assertEqual(hex_words(first_chain("sha384")), words)

    def test_sha512(self):
        words = ("6a09e667f3bcc908 bb67ae8584caa73b 3c6ef372fe94f82b a54ff53a5f1d36f1 "
                 "510e527fade682d1 9b05688c2b3e6c1f 1f83d9abfb41bd6b 5be0cd19137e2179")
        self.assertEqual(hex_words(first_chain("sha512")), words)

    def test_tuples(self):
        for name in NAMES:
            self.assertIsInstance(first_chain(name), tuple)


class DigestTest(unittest.TestCase):
    def test_known_digests(self):
        abc = (97, 98, 99)
        self.assertEqual(bytes(digest("sha1", abc)).hex(),
                         "a9993e364706816aba3e25717850c26c9cd0d89d")
        self.assertEqual(bytes(digest("sha256", abc)).hex(),
                         "ba7816bf8f01cfea414140de5dae2223b00361a396177a9cb410ff61f20015ad")

    def test_every_length_up_to_several_blocks(self):
        for name in NAMES:
            for size in range(3 * block_length(name) + 3):
                octets = message(size)
                self.assertEqual(digest(name, octets), expected(name, octets), (name, size))

    def test_around_the_ends_of_later_blocks(self):
        for name in NAMES:
            block = block_length(name)
            for end in (7 * block, 4096):
                # The padding needs one block more from 9 or 17 octets before the end on.
                for size in range(end - 20, min(end + 3, 4097)):
                    octets = message(size)
                    self.assertEqual(digest(name, octets), expected(name, octets), (name, size))

    def test_octets_that_are_all_alike(self):
        for name in NAMES:
            for octet in (0, 128, 255):
                octets = (octet,) * 200
                self.assertEqual(digest(name, octets), expected(name, octets))

    def test_no_octets(self):
        for name in NAMES:
            for value in (None, [], [1], "abc", b"abc", 3, True, (True,), (-1,), (256,), ("a",)):
                with self.assertRaises(OctetError):
                    digest(name, value)

    def test_at_most_4096_octets(self):
        for name in NAMES:
            digest(name, (1,) * 4096)
            with self.assertRaises(LengthError):
                digest(name, (1,) * 4097)
            with self.assertRaises(OctetError):
                digest(name, (1,) * 4096 + (256,))


class CompressTest(unittest.TestCase):
    def padded(self, name, octets):
        block = block_length(name)
        field = 8 if block == 64 else 16
        octets = list(octets) + [128]
        while (len(octets) + field) % block:
            octets.append(0)
        bits = 8 * octets.index(128)
        return tuple(octets) + tuple(bits.to_bytes(field, "big"))

    def test_a_digest_is_made_of_compressions(self):
        for name in NAMES:
            block, size = block_length(name), 8 if name in LONG else 4
            for count in (0, 3, block - 2 * size - 1, block - 2 * size, block, 2 * block + 1):
                octets = (7,) * count
                chain = first_chain(name)
                padded = self.padded(name, octets)
                for at in range(0, len(padded), block):
                    chain = compress(name, chain, padded[at:at + block])
                    self.assertIsInstance(chain, tuple)
                made = b"".join(word.to_bytes(size, "big") for word in chain)
                self.assertEqual(made[:digest_size(name)], bytes(expected(name, octets)))

    def test_any_chain(self):
        # The greatest words must be reduced as all others are.
        for name in NAMES:
            most = 2 ** (64 if name in LONG else 32) - 1
            chain = compress(name, (most,) * len(first_chain(name)), (255,) * block_length(name))
            self.assertEqual(len(chain), len(first_chain(name)))
            self.assertTrue(all(0 <= word <= most for word in chain))

    def test_arguments_stay(self):
        for name in NAMES:
            chain, block = first_chain(name), message(block_length(name))
            self.assertEqual(compress(name, chain, block), compress(name, chain, block))
            self.assertEqual(chain, first_chain(name))

    def test_wrong_blocks(self):
        for name in NAMES:
            block, chain = block_length(name), first_chain(name)
            for size in {0, 1, block - 1, block + 1, 2 * block, 192 - block, 4096, 4097}:
                with self.assertRaises(LengthError, msg=(name, size)):
                    compress(name, chain, (0,) * size)
            for value in (None, [0] * block, (0,) * (block - 1) + (256,), (True,) * block,
                          b"\0" * block, "a" * block, (-1,), ("a",)):
                with self.assertRaises(OctetError):
                    compress(name, chain, value)


class PiecesTest(unittest.TestCase):
    def test_example(self):
        machine = Digest("sha256")
        self.assertIsNone(machine.update((1, 2)))
        machine.update((3,))
        self.assertEqual(machine.finish(), digest("sha256", (1, 2, 3)))
        self.assertEqual(machine.length, 3)

    def test_name_and_length(self):
        for name in NAMES:
            machine = Digest(name)
            self.assertEqual((machine.name, machine.length), (name, 0))
            machine.update(message(300))
            machine.update(())
            machine.update(message(5))
            self.assertEqual((machine.name, machine.length), (name, 305))

    def test_pieces_of_all_sizes(self):
        octets = message(400)
        for name in NAMES:
            for size in (1, 2, 3, 7, 63, 64, 65, 127, 128, 129, 200, 399, 400):
                machine = Digest(name)
                for at in range(0, 400, size):
                    machine.update(octets[at:at + size])
                self.assertEqual(machine.finish(), expected(name, octets), (name, size))

    def test_pieces_of_growing_sizes(self):
        octets = message(4096)
        for name in NAMES:
            machine, at, size = Digest(name), 0, 0
            while at < 4096:
                machine.update(octets[at:at + size])
                at, size = at + size, size + 1
            self.assertEqual(machine.finish(), expected(name, octets), name)

    def test_every_beginning(self):
        octets = message(300)
        for name in NAMES:
            machine = Digest(name)
            for at, octet in enumerate(octets):
                self.assertEqual(machine.finish(), expected(name, octets[:at]), (name, at))
                machine.update((octet,))

    def test_more_than_4096_octets_in_all(self):
        octets = message(4096)
        for name in NAMES:
            machine = Digest(name)
            machine.update(octets)
            machine.update(octets)
            machine.update((1,))
            self.assertEqual(machine.finish(), expected(name, octets + octets + (1,)))
            self.assertEqual(machine.length, 8193)

    def test_finish_changes_nothing(self):
        for name in NAMES:
            machine = Digest(name)
            for size in (0, 5, 60, 3, 128, 255):
                machine.update(message(size))
                text, length = machine.save(), machine.length
                first = machine.finish()
                self.assertEqual(machine.finish(), first)
                self.assertEqual((machine.save(), machine.length), (text, length))

    def test_fork(self):
        for name in NAMES:
            for before in (0, 1, 64, 128, 130):
                first = Digest(name)
                first.update(message(before))
                second = first.fork()
                self.assertIsInstance(second, Digest)
                self.assertEqual((second.name, second.length), (name, before))
                self.assertEqual(second.save(), first.save())
                second.update((1,) * 200)
                self.assertEqual(first.finish(), expected(name, message(before)))
                self.assertEqual(first.length, before)
                first.update((2, 3))
                third = second.fork()
                third.update((9,))
                self.assertEqual(first.finish(), expected(name, message(before) + (2, 3)))
                self.assertEqual(second.finish(), expected(name, message(before) + (1,) * 200))
                self.assertEqual(third.finish(), expected(name, message(before) + (1,) * 200 + (9,)))

    def test_a_refused_update(self):
        refused = ((None, OctetError), ([1], OctetError), ("a", OctetError), ((256,), OctetError),
                   ((1, True), OctetError), ((0,) * 4096 + (-1,), OctetError),
                   ((0,) * 4097, LengthError))
        for name in NAMES:
            machine = Digest(name)
            machine.update(message(70))
            text = machine.save()
            for octets, error in refused:
                with self.assertRaises(error):
                    machine.update(octets)
                self.assertEqual(machine.save(), text)
                self.assertEqual(machine.length, 70)
            machine.update((4,))
            self.assertEqual(machine.finish(), expected(name, message(70) + (4,)))

    def test_restored_machines_go_on(self):
        octets = message(500)
        for name in NAMES:
            for step in (1, 19, 64, 128, 150):
                machine = Digest(name)
                for at in range(0, 500, step):
                    machine.update(octets[at:at + step])
                    machine = restore_digest(machine.save())
                    self.assertEqual((machine.name, machine.length), (name, min(at + step, 500)))
                self.assertEqual(machine.finish(), expected(name, octets), (name, step))


if __name__ == "__main__":
    unittest.main()
