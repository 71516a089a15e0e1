"""BLAKE2b, held against Python's own, and its class in pieces."""

import hashlib
import itertools
import random
import unittest
from math import isqrt

from saltmill.blake import Blake, blake2b, compress, restore_blake
from saltmill.errors import LengthError, OctetError
from tests.common import NO_OCTETS, TOO_LONG, WRONG_OCTETS, CommonTest, message, octets_of, octets_of_hex

MOST = 2 ** 64 - 1
INITIAL = tuple(isqrt(prime << 128) % 2 ** 64 for prime in (2, 3, 5, 7, 11, 13, 17, 19))
KEYS = tuple(message(size) for size in (1, 31, 64))
WRONG_SIZES = tuple((size, LengthError) for size in (0, -1, 65, 66, 128, 10 ** 30))
WRONG_KEYS = (tuple((value, OctetError) for value in NO_OCTETS) +
              tuple(((0,) * size, LengthError) for size in (65, 66, 128, 4096, 4097)))
ORDER = """
0 1 2 3 4 5 6 7 8 9 10 11 12 13 14 15
14 10 4 8 9 15 13 6 1 12 0 2 11 7 5 3
11 8 12 0 5 2 15 13 10 14 3 6 7 1 9 4
7 9 3 1 13 12 11 14 2 6 5 10 4 0 15 8
9 0 5 7 2 4 10 15 14 1 11 12 6 8 3 13
2 12 6 10 0 11 8 3 4 13 7 5 15 14 1 9
12 5 1 15 14 13 4 10 0 7 6 3 9 2 8 11
13 11 7 14 12 1 3 9 5 0 15 4 8 6 2 10
6 15 14 9 11 3 0 8 12 2 13 7 1 4 10 5
10 2 8 4 7 6 1 5 15 11 9 14 3 12 13 0
""".split()


def expected(octets, size=64, key=()):
    return tuple(hashlib.blake2b(bytes(octets), digest_size=size, key=bytes(key)).digest())


def turned(word, places):
    return (word >> places) + (word << (64 - places)) % 2 ** 64


def expected_state(state, words, count, last):
    """The compression as the document tells it, written once more."""
    v = list(state) + list(INITIAL)
    v[12] ^= count % 2 ** 64
    v[13] ^= count // 2 ** 64 % 2 ** 64
    if last:
        v[14] = MOST - v[14]
    places = ("048c", "159d", "26ae", "37bf", "05af", "16bc", "278d", "349e")
    for number in range(12):
        order = [int(word) for word in ORDER[16 * (number % 10):][:16]]
        for k, digits in enumerate(places):
            a, b, c, d = [int(digit, 16) for digit in digits]
            for x, far, near in ((order[2 * k], 32, 24), (order[2 * k + 1], 16, 63)):
                v[a] = (v[a] + v[b] + words[x]) % 2 ** 64
                v[d] = turned(v[d] ^ v[a], far)
                v[c] = (v[c] + v[d]) % 2 ** 64
                v[b] = turned(v[b] ^ v[c], near)
    return tuple(state[k] ^ v[k] ^ v[k + 8] for k in range(8))


def little_words(octets):
    return tuple(int.from_bytes(bytes(octets[at:at + 8]), "little") for at in range(0, len(octets), 8))


class CompressTest(CommonTest):
    def test_the_reference_is_right(self):
        state = (INITIAL[0] ^ (16842752 + 64),) + INITIAL[1:]
        state = expected_state(state, little_words((97, 98, 99) + (0,) * 125), 3, True)
        octets = b"".join(word.to_bytes(8, "little") for word in state)
        self.assertEqual(tuple(octets), expected((97, 98, 99)))

    def test_any_words(self):
        source = random.Random(22)
        for count in (0, 1, 3, 127, 128, 129, 4096, 2 ** 32, 2 ** 63, MOST):
            for last in (True, False):
                state = tuple(source.randrange(2 ** 64) for _ in range(8))
                words = tuple(source.randrange(2 ** 64) for _ in range(16))
                self.assertEqual(compress(state, words, count, last),
                                 expected_state(state, words, count, last))

    def test_the_least_and_the_greatest_words(self):
        for state, words in itertools.product(((0,) * 8, (MOST,) * 8), ((0,) * 16, (MOST,) * 16)):
            for last in (True, False):
                made = compress(state, words, 128, last)
                self.assertEqual(made, expected_state(state, words, 128, last))
                self.assertTrue(all(0 <= word <= MOST for word in made))

    def test_each_message_word_counts(self):
        for place in range(16):
            words = (0,) * place + (1,) + (0,) * (15 - place)
            self.assertEqual(compress(INITIAL, words, 5, False), expected_state(INITIAL, words, 5, False))

    def test_counts_of_more_than_64_bits(self):
        words = tuple(range(16))
        for count in (2 ** 64, 2 ** 64 + 1, 2 ** 64 + 128, 3 * 2 ** 64 + 7, 2 ** 100 + 5, 2 ** 127,
                      2 ** 128 - 1):
            for last in (True, False):
                self.assertEqual(compress(INITIAL, words, count, last),
                                 expected_state(INITIAL, words, count, last))
        self.assertNotEqual(compress(INITIAL, words, 2 ** 64, False), compress(INITIAL, words, 0, False))
        self.assertNotEqual(compress(INITIAL, words, 2 ** 64, False), compress(INITIAL, words, 1, False))

    def test_lists_and_tuples(self):
        state, words = list(range(8)), list(range(100, 116))
        made = compress(tuple(state), tuple(words), 7, True)
        self.assertIsInstance(made, tuple)
        for kinds in itertools.product((list, tuple), repeat=2):
            self.assertEqual(compress(kinds[0](state), kinds[1](words), 7, True), made)

    def test_arguments_stay(self):
        state, words = list(range(8)), list(range(100, 116))
        for last in (True, False):
            self.assertIsInstance(compress(state, words, 7, last), tuple)
            self.assertEqual((state, words), (list(range(8)), list(range(100, 116))))


class PlainTest(CommonTest):
    def test_known_digests(self):
        self.assertEqual(blake2b(octets_of("abc")), octets_of_hex(
            "ba80a53f981c4d0d6a2797b69f12f6e94c212f14685ac4b74b12bb6fdbffa2d1"
            "7d87c5392aab792dc252d5de4533cc9518d38aa8dbf1925ab92386edd4009923"))
        self.assertEqual(blake2b(()), octets_of_hex(
            "786a02f742015903c6c6fd852552d272912f4740e15847618a86e217f71f5419"
            "d25e1031afee585313896444934eb04b903a685b1448b755d56f701afe9be2ce"))

    def test_tuples(self):
        self.assertIsInstance(blake2b(()), tuple)
        self.assertIsInstance(blake2b((1,), size=1, key=(2,)), tuple)

    def test_every_length_up_to_several_blocks(self):
        for size in range(3 * 128 + 4):
            octets = message(size)
            self.assertEqual(blake2b(octets), expected(octets), size)

    def test_every_length_with_a_key(self):
        for size in range(2 * 128 + 4):
            octets = message(size)
            for key in KEYS:
                self.assertEqual(blake2b(octets, size=33, key=key), expected(octets, 33, key), size)

    def test_every_size(self):
        for size in range(1, 65):
            for octets in ((), (1, 2, 3), message(128), message(129)):
                self.assertEqual(blake2b(octets, size=size), expected(octets, size))
                self.assertEqual(blake2b(octets, size=size, key=(9,)), expected(octets, size, (9,)))

    def test_every_key(self):
        for length in range(65):
            key = message(length)
            for octets in ((), (0,), message(127), message(128), message(129)):
                self.assertEqual(blake2b(octets, key=key), expected(octets, 64, key), length)
                self.assertEqual(blake2b(octets, size=20, key=key), expected(octets, 20, key), length)

    def test_the_key_of_zeros_is_no_empty_key(self):
        self.assertEqual(blake2b((), key=(0,)), expected((), 64, (0,)))
        self.assertNotEqual(blake2b((), key=(0,)), blake2b((), key=()))
        self.assertNotEqual(blake2b((), key=(0,)), blake2b((), key=(0, 0)))

    def test_long_inputs(self):
        for length in (3967, 3968, 3969, 4095, 4096):
            octets = message(length)
            self.assertEqual(blake2b(octets), expected(octets))
            self.assertEqual(blake2b(octets, key=KEYS[2]), expected(octets, 64, KEYS[2]))

    def test_wrong_arguments(self):
        self.raises_in_order(lambda octets, size, key: blake2b(octets, size=size, key=key),
                             ((1, 2), 32, (3,)), (WRONG_OCTETS, WRONG_SIZES, WRONG_KEYS))
        with self.assertRaises(LengthError):
            blake2b(TOO_LONG)
        with self.assertRaises(OctetError):
            blake2b([1])


class PiecesTest(CommonTest):
    def test_example(self):
        machine = Blake(2)
        self.assertIsNone(machine.update((1, 2, 3)))
        self.assertEqual(machine.save().split(" ")[:4], ["blake", "2", "0", "0"])
        self.assertEqual(machine.save().split(" ")[-3:], ["1", "2", "3"])
        self.assertEqual(machine.finish(), expected((1, 2, 3), 2))

    def test_defaults_and_keywords(self):
        self.assertEqual(Blake().finish(), expected(()))
        self.assertEqual(Blake(size=5, key=(1,)).finish(), expected((), 5, (1,)))
        self.assertEqual(Blake(5, (1,)).finish(), expected((), 5, (1,)))
        self.assertIsInstance(Blake().finish(), tuple)

    def test_pieces_of_all_sizes(self):
        octets = message(520)
        for key in ((),) + KEYS:
            for size in (1, 2, 3, 7, 63, 64, 65, 127, 128, 129, 130, 255, 256, 257, 519, 520):
                machine = Blake(48, key)
                for at in range(0, 520, size):
                    machine.update(octets[at:at + size])
                    self.assertEqual(machine.taken, min(at + size, 520))
                self.assertEqual(machine.finish(), expected(octets, 48, key), (len(key), size))

    def test_pieces_of_growing_sizes(self):
        octets = message(4096)
        machine, at, size = Blake(), 0, 0
        while at < 4096:
            machine.update(octets[at:at + size])
            at, size = at + size, size + 1
        self.assertEqual(machine.finish(), expected(octets))

    def test_every_beginning(self):
        octets = message(270)
        for key in ((), KEYS[1]):
            machine = Blake(64, key)
            for at, octet in enumerate(octets):
                self.assertEqual(machine.taken, at)
                self.assertEqual(machine.finish(), expected(octets[:at], 64, key), at)
                machine.update((octet,))
                machine.update(())

    def test_every_size_and_key(self):
        for number in range(1, 65):
            key = message(65 - number)
            machine = Blake(number, key)
            self.assertEqual(machine.finish(), expected((), number, key))
            machine.update((1, 2, 3))
            self.assertEqual(machine.taken, 3)
            self.assertEqual(machine.finish(), expected((1, 2, 3), number, key))

    def test_more_than_4096_octets_in_all(self):
        octets = message(4096)
        for key in ((), KEYS[0]):
            machine = Blake(64, key)
            machine.update(octets)
            machine.update(octets)
            machine.update((1,))
            self.assertEqual(machine.taken, 8193)
            self.assertEqual(machine.finish(), expected(octets + octets + (1,), 64, key))

    def test_finish_changes_nothing(self):
        for key in ((),) + KEYS:
            machine = Blake(30, key)
            taken = 0
            for size in (0, 5, 123, 128, 0, 256, 1, 127):
                machine.update(message(size))
                taken += size
                text = machine.save()
                first = machine.finish()
                self.assertEqual(machine.finish(), first)
                self.assertEqual((machine.save(), machine.taken), (text, taken))

    def test_fork(self):
        for key in ((), KEYS[1]):
            for before in (0, 1, 127, 128, 129, 256, 300):
                octets = message(before)
                first = Blake(40, key)
                first.update(octets)
                second = first.fork()
                self.assertIsInstance(second, Blake)
                self.assertEqual((second.save(), second.taken), (first.save(), before))
                second.update((1,) * 200)
                self.assertEqual((first.finish(), first.taken), (expected(octets, 40, key), before))
                first.update((2, 3))
                third = second.fork()
                third.update((9,))
                self.assertEqual(first.finish(), expected(octets + (2, 3), 40, key))
                self.assertEqual(second.finish(), expected(octets + (1,) * 200, 40, key))
                self.assertEqual(third.finish(), expected(octets + (1,) * 200 + (9,), 40, key))
                self.assertEqual((first.taken, second.taken, third.taken),
                                 (before + 2, before + 200, before + 201))

    def test_wrong_arguments(self):
        self.raises_in_order(Blake, (32, (3,)), (WRONG_SIZES, WRONG_KEYS))

    def test_a_refused_update(self):
        for key in ((), KEYS[0]):
            for before in (0, 70, 128, 200):
                machine = Blake(64, key)
                machine.update(message(before))
                text = machine.save()
                for value, error in WRONG_OCTETS:
                    with self.assertRaises(error):
                        machine.update(value)
                    self.assertEqual((machine.save(), machine.taken), (text, before))
                machine.update((4,))
                self.assertEqual(machine.finish(), expected(message(before) + (4,), 64, key))

    def test_restored_machines_go_on(self):
        octets = message(500)
        for key in ((),) + KEYS:
            for step in (1, 19, 64, 128, 150):
                machine = Blake(21, key)
                for at in range(0, 500, step):
                    machine = restore_blake(machine.save())
                    machine.update(octets[at:at + step])
                    self.assertEqual(machine.taken, min(at + step, 500))
                    self.assertEqual(machine.fork().save(), machine.save())
                self.assertEqual(machine.finish(), expected(octets, 21, key), (len(key), step))


if __name__ == "__main__":
    unittest.main()
