"""Keyed digests, held against Python's own, and their class in pieces."""

import hmac as python_hmac
import unittest

from saltmill.codes import Keyed, hmac, restore_keyed
from saltmill.digests import compress, digest, first_chain
from tests.common import (BITS, BLOCKS, CHAINS, NAMES, NO_NAME_WORDS, SIZES, WRONG_NAMES, WRONG_OCTETS,
                          CommonTest, message, octets_of, octets_of_hex)


def expected(name, key, octets):
    return tuple(python_hmac.new(bytes(key), bytes(octets), name).digest())


def key_lengths(name):
    block = BLOCKS[name]
    return (0, 1, 20, block - 1, block, block + 1, 2 * block, 300)


def words_of(name, key, octets):
    machine = Keyed(name, key)
    machine.update(octets)
    return machine.save().split(" ")


def expected_words(name, key, octets):
    """The words that the document demands, computed block by block."""
    block = BLOCKS[name]
    key = digest(name, key) if len(key) > block else key
    key = key + (0,) * (block - len(key))
    outer = compress(name, first_chain(name), tuple(octet ^ 92 for octet in key))
    inner = compress(name, first_chain(name), tuple(octet ^ 54 for octet in key))
    end = len(octets) - len(octets) % block
    for at in range(0, end, block):
        inner = compress(name, inner, octets[at:at + block])
    numbers = (len(octets),) + outer + inner + octets[end:]
    return ["keyed", name] + [str(number) for number in numbers]


class PlainTest(CommonTest):
    def test_known_tags(self):
        # From RFC 2202 and RFC 4231.
        key, data = (11,) * 20, octets_of("Hi There")
        self.assertEqual(hmac("sha1", key, data), octets_of_hex("b617318655057264e28bc0b6fb378c8ef146be00"))
        self.assertEqual(hmac("sha224", key, data), octets_of_hex(
            "896fb1128abbdf196832107cd49df33f47b4b1169912ba4f53684b22"))
        self.assertEqual(hmac("sha256", key, data), octets_of_hex(
            "b0344c61d8db38535ca8afceaf0bf12b881dc200c9833da726e9376c2e32cff7"))
        self.assertEqual(hmac("sha256", octets_of("Jefe"), octets_of("what do ya want for nothing?")),
                         octets_of_hex("5bdcc146bf60754e6a042426089575c75a003f089d2739839dec58b964ec3843"))

    def test_keys_of_all_lengths(self):
        for name in NAMES:
            for length in range(2 * BLOCKS[name] + 2):
                key = message(length)
                tag = hmac(name, key, (1, 2, 3))
                self.assertEqual(tag, expected(name, key, (1, 2, 3)), (name, length))
                self.assertIsInstance(tag, tuple)

    def test_messages_of_all_lengths(self):
        for name in NAMES:
            for length in range(2 * BLOCKS[name] + 2):
                octets = message(length)
                self.assertEqual(hmac(name, (7,) * 9, octets), expected(name, (7,) * 9, octets))

    def test_keys_and_messages(self):
        for name in NAMES:
            for length in key_lengths(name):
                key = message(length)
                for octets in ((), (0,), message(BLOCKS[name]), message(1000)):
                    self.assertEqual(hmac(name, key, octets), expected(name, key, octets))

    def test_the_longest_ones(self):
        for name in NAMES:
            for length in (4095, 4096):
                octets = message(length)
                self.assertEqual(hmac(name, octets, octets), expected(name, octets, octets))

    def test_the_empty_key_is_like_zeros(self):
        for name in NAMES:
            tag = hmac(name, (), (1, 2, 3))
            for length in (1, 20, BLOCKS[name] - 1, BLOCKS[name]):
                self.assertEqual(hmac(name, (0,) * length, (1, 2, 3)), tag)
            self.assertNotEqual(hmac(name, (0,) * (BLOCKS[name] + 1), (1, 2, 3)), tag)

    def test_wrong_arguments(self):
        self.raises_in_order(hmac, ("sha1", (1,), (2,)), (WRONG_NAMES, WRONG_OCTETS, WRONG_OCTETS))


class PiecesTest(CommonTest):
    def test_name(self):
        for name in NAMES:
            machine = Keyed(name, (1,))
            self.assertEqual(machine.name, name)
            self.assertIsNone(machine.update((1,)))
            self.assertEqual((machine.fork().name, restore_keyed(machine.save()).name), (name, name))
            self.assertIsInstance(machine.finish(), tuple)

    def test_keys(self):
        for name in NAMES:
            for length in key_lengths(name):
                key = message(length)
                machine = Keyed(name, key)
                self.assertEqual(machine.finish(), expected(name, key, ()))
                machine.update((5, 6))
                self.assertEqual(machine.finish(), expected(name, key, (5, 6)))

    def test_pieces_of_all_sizes(self):
        octets = message(400)
        for name in NAMES:
            for size in (1, 2, 7, 63, 64, 65, 127, 128, 129, 399, 400):
                machine = Keyed(name, (3,) * 40)
                for at in range(0, 400, size):
                    machine.update(octets[at:at + size])
                    machine.update(())
                self.assertEqual(machine.finish(), expected(name, (3,) * 40, octets), (name, size))

    def test_every_beginning(self):
        octets = message(270)
        for name in NAMES:
            machine = Keyed(name, (8,))
            for at, octet in enumerate(octets):
                self.assertEqual(machine.finish(), expected(name, (8,), octets[:at]), (name, at))
                machine.update((octet,))

    def test_more_than_4096_octets_in_all(self):
        octets = message(4096)
        for name in NAMES:
            machine = Keyed(name, (8,))
            for piece in (octets, octets, (1,)):
                machine.update(piece)
            self.assertEqual(machine.finish(), expected(name, (8,), octets + octets + (1,)))

    def test_finish_changes_nothing(self):
        for name in NAMES:
            machine = Keyed(name, (1, 2))
            for size in (0, 5, 60, 3, 128, 255):
                machine.update(message(size))
                text = machine.save()
                first = machine.finish()
                self.assertEqual(machine.finish(), first)
                self.assertEqual(machine.save(), text)

    def test_fork(self):
        for name in NAMES:
            for before in (0, 1, 64, 128, 130):
                key, octets = message(50), message(before)
                first = Keyed(name, key)
                first.update(octets)
                second = first.fork()
                self.assertIsInstance(second, Keyed)
                self.assertEqual(second.save(), first.save())
                second.update((1,) * 200)
                self.assertEqual(first.finish(), expected(name, key, octets))
                first.update((2, 3))
                third = second.fork()
                third.update((9,))
                self.assertEqual(first.finish(), expected(name, key, octets + (2, 3)))
                self.assertEqual(second.finish(), expected(name, key, octets + (1,) * 200))
                self.assertEqual(third.finish(), expected(name, key, octets + (1,) * 200 + (9,)))

    def test_forks_of_a_key_without_pieces(self):
        for name in NAMES:
            empty = Keyed(name, message(200))
            for length in (0, 1, 64, 200, 5):
                machine = empty.fork()
                machine.update(message(length))
                self.assertEqual(machine.finish(), expected(name, message(200), message(length)))
            self.assertEqual(empty.finish(), expected(name, message(200), ()))

    def test_wrong_arguments(self):
        self.raises_in_order(Keyed, ("sha1", (1,)), (WRONG_NAMES, WRONG_OCTETS))

    def test_a_refused_update(self):
        for name in NAMES:
            machine = Keyed(name, (1,))
            machine.update(message(70))
            text = machine.save()
            for value, error in WRONG_OCTETS:
                with self.assertRaises(error):
                    machine.update(value)
                self.assertEqual(machine.save(), text)
            machine.update((4,))
            self.assertEqual(machine.finish(), expected(name, (1,), message(70) + (4,)))

    def test_restored_machines_go_on(self):
        octets = message(500)
        for name in NAMES:
            key = message(BLOCKS[name] + 1)
            for step in (1, 19, 64, 128, 150):
                machine = Keyed(name, key)
                for at in range(0, 500, step):
                    machine = restore_keyed(machine.save())
                    self.assertEqual(machine.finish(), expected(name, key, octets[:at]))
                    machine.update(octets[at:at + step])
                    machine = machine.fork()
                self.assertEqual(machine.finish(), expected(name, key, octets), (name, step))


class SaveTest(CommonTest):
    def test_word_by_word(self):
        for name in NAMES:
            for length in key_lengths(name):
                for size in (0, 1, 63, 64, 65, 127, 128, 129, 300):
                    key, octets = message(length), message(size)
                    self.assertEqual(words_of(name, key, octets), expected_words(name, key, octets))

    def test_the_number_of_numbers(self):
        for name in NAMES:
            for size in range(2 * BLOCKS[name] + 1):
                words = words_of(name, (1,), message(size))
                self.assertEqual(len(words), 3 + 2 * CHAINS[name] + size % BLOCKS[name])
                self.assertLessEqual(len(words) - 2, 2 * CHAINS[name] + BLOCKS[name])

    def test_saving_changes_nothing(self):
        for name in NAMES:
            machine = Keyed(name, (1,))
            machine.update(message(130))
            self.assertEqual(machine.save(), machine.save())
            self.assertEqual(machine.finish(), expected(name, (1,), message(130)))

    def test_equal_states_have_equal_texts(self):
        for name in NAMES:
            block = BLOCKS[name]
            for length in (block + 1, 300, 4096):
                key = message(length)
                self.assertEqual(words_of(name, key, (1, 2)), words_of(name, digest(name, key), (1, 2)))
            self.assertEqual(words_of(name, (5,), (1, 2)), words_of(name, (5, 0, 0), (1, 2)))
            self.assertNotEqual(words_of(name, (5,), (1, 2)), words_of(name, (0, 5), (1, 2)))
            # A key of a whole block is none that is replaced.
            key = message(block)
            self.assertNotEqual(words_of(name, key, ()), words_of(name, digest(name, key), ()))

    def test_pieces_do_not_matter(self):
        for name in NAMES:
            machine = Keyed(name, (1,))
            for octet in message(200):
                machine.update((octet,))
            self.assertEqual(machine.save().split(" "), words_of(name, (1,), message(200)))


class RestoreTest(CommonTest):
    def test_every_saved_text(self):
        for name in NAMES:
            for size in range(270):
                text = " ".join(words_of(name, message(5), message(size)))
                machine = restore_keyed(text)
                self.assertIsInstance(machine, Keyed)
                self.assertEqual((machine.save(), machine.name), (text, name))

    def test_wrong_starts(self):
        self.refuses_wrong_starts(restore_keyed, words_of("sha1", (1,), (1, 2)))
        for word in ("blake", "reader", "stretcher"):
            self.refuses_with(restore_keyed, words_of("sha1", (1,), (1, 2)), 0, word)

    def test_the_name_of_the_digest(self):
        words = words_of("sha1", (1,), (1, 2))
        for word in NO_NAME_WORDS + ("keyed", "0"):
            self.refuses_with(restore_keyed, words, 1, word)
        self.refuses(restore_keyed, "keyed  sha1 0", 1)
        self.refuses(restore_keyed, "keyed sha1", 2)
        self.refuses(restore_keyed, "keyed sha1 ", 2)
        # The words of a chain are too many or too few for another digest.
        self.refuses_words(restore_keyed, ["keyed", "sha256"] + words[2:], len(words))
        self.refuses_words(restore_keyed, ["keyed", "sha1"] + words_of("sha256", (1,), ())[2:], 13)

    def test_ordinary_faults(self):
        for name in NAMES:
            for size in (0, 3, BLOCKS[name], BLOCKS[name] + 2):
                self.refuses_ordinary_faults(restore_keyed, words_of(name, (1,), message(size)), 2)

    def test_chain_words(self):
        for name in NAMES:
            limit = 2 ** BITS[name]
            for size in (2, 130):
                words = words_of(name, (1,), message(size))
                for at in range(3, 3 + 2 * CHAINS[name]):
                    for number in (limit, limit + 1, 2 ** 64, 10 ** 39):
                        self.refuses_with(restore_keyed, words, at, number)
                    for number in (0, 1, limit - 1):
                        self.keeps(restore_keyed, " ".join(words[:at] + [str(number)] + words[at + 1:]))

    def test_octets(self):
        for name in NAMES:
            words = words_of(name, (1,), message(BLOCKS[name] + 3))
            for at in range(len(words) - 3, len(words)):
                for number in (256, 257, 1000, 2 ** 32):
                    self.refuses_with(restore_keyed, words, at, number)
                for number in (0, 255):
                    self.keeps(restore_keyed, " ".join(words[:at] + [str(number)] + words[at + 1:]))

    def test_the_length_decides_how_many_octets_stand(self):
        for name in NAMES:
            block, words = BLOCKS[name], words_of(name, (1,), message(5))
            for length, at in ((4, len(words) - 1), (0, len(words) - 5), (block, len(words) - 5),
                               (6, len(words)), (block - 1, len(words))):
                self.refuses_words(restore_keyed, words[:2] + [str(length)] + words[3:], at)
            for length in (5, block + 5, 1000 * block + 5):
                self.keeps(restore_keyed, " ".join(words[:2] + [str(length)] + words[3:]))

    def test_great_lengths(self):
        for name in NAMES:
            block, words = BLOCKS[name], words_of(name, (1,), (7,))
            field = block // 8
            chain = tuple(int(word) for word in words[3 + CHAINS[name]:-1])
            outer = tuple(int(word) for word in words[3:3 + CHAINS[name]])
            for length in (2 ** 61 - block + 1, 2 ** 61 + 1, 2 ** 64 + 1, 2 ** 125 - block + 1, 2 ** 125 + 1,
                           10 ** 39 - 10 ** 39 % block + 1, 10 ** 40 - 10 ** 40 % block + 1 - block):
                text = " ".join(words[:2] + [str(length)] + words[3:])
                self.keeps(restore_keyed, text)
                bits = (8 * (length + block) % 256 ** field).to_bytes(field, "big")
                inside = compress(name, chain, (7, 128) + (0,) * (block - 2 - field) + tuple(bits))
                inside = b"".join(word.to_bytes(BITS[name] // 8, "big") for word in inside)[:SIZES[name]]
                bits = (8 * (block + len(inside))).to_bytes(field, "big")
                zeros = (0,) * (block - len(inside) - 1 - field)
                last = compress(name, outer, tuple(inside) + (128,) + zeros + tuple(bits))
                made = b"".join(word.to_bytes(BITS[name] // 8, "big") for word in last)[:SIZES[name]]
                self.assertEqual(bytes(restore_keyed(text).finish()), made, (name, length))


if __name__ == "__main__":
    unittest.main()
