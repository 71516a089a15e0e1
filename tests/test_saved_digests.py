"""The texts of the class Digest, and texts that are none."""

import unittest

from saltmill.digests import Digest, block_length, compress, digest, first_chain, restore_digest
from saltmill.errors import StateError
from saltmill.octets import big

NAMES = ("sha1", "sha224", "sha256", "sha384", "sha512")
LONG = ("sha384", "sha512")


def message(size):
    return tuple((size * 13 + place * 7) % 256 for place in range(size))


def words_of(name, size):
    machine = Digest(name)
    machine.update(message(size))
    return machine.save().split(" ")


def expected_words(name, octets):
    """The words that the document demands, computed block by block."""
    block, chain = block_length(name), first_chain(name)
    end = len(octets) - len(octets) % block
    for at in range(0, end, block):
        chain = compress(name, chain, octets[at:at + block])
    numbers = (len(octets),) + chain + octets[end:]
    return ["digest", name] + [str(number) for number in numbers]


class SaveTest(unittest.TestCase):
    def test_word_by_word(self):
        for name in NAMES:
            for size in (0, 1, 2, 63, 64, 65, 127, 128, 129, 256, 300):
                self.assertEqual(words_of(name, size), expected_words(name, message(size)))

    def test_a_whole_text(self):
        machine = Digest("sha1")
        machine.update((7, 0, 255))
        text = "digest sha1 3 1732584193 4023233417 2562383102 271733878 3285377520 7 0 255"
        self.assertEqual(machine.save(), text)

    def test_saving_changes_nothing(self):
        for name in NAMES:
            machine = Digest(name)
            machine.update(message(130))
            self.assertEqual(machine.save(), machine.save())
            self.assertEqual(machine.finish(), digest(name, message(130)))


class RestoreTest(unittest.TestCase):
    def refuses(self, text, at):
        with self.assertRaises(StateError, msg=repr(text)) as caught:
            restore_digest(text)
        self.assertEqual(caught.exception.at, at, repr(text))

    def refuses_words(self, words, at):
        self.refuses(" ".join(words), at)

    def test_every_saved_text(self):
        for name in NAMES:
            for size in range(300):
                text = " ".join(words_of(name, size))
                machine = restore_digest(text)
                self.assertIsInstance(machine, Digest)
                self.assertEqual(machine.save(), text)
                self.assertEqual((machine.name, machine.length), (name, size))

    def test_no_string(self):
        for value in (None, 0, 7, b"digest", ("digest",), ["digest", "sha1"], {}, True):
            self.refuses(value, 0)

    def test_the_name_of_the_machine(self):
        for word in ("Digest", "DIGEST", "digests", "dig", "keyed", "blake", "", "0"):
            self.refuses_words([word] + words_of("sha1", 5)[1:], 0)
        for text in ("", " ", "\n", " digest sha1 0", "sha1"):
            self.refuses(text, 0)
        self.refuses("digest", 1)

    def test_the_name_of_the_digest(self):
        for word in ("SHA1", "sha", "sha3", "sha2566", "", "0", "blake2b", "md5", "digest"):
            self.refuses_words(["digest", word] + words_of("sha1", 5)[2:], 1)
        self.refuses("digest ", 1)
        self.refuses("digest  sha1 0", 1)
        self.refuses("digest sha1", 2)

    def test_the_first_wrong_word_counts(self):
        words = words_of("sha256", 70)
        for at in range(len(words)):
            for later in (at, at + 1, len(words) - 1):
                wrong = list(words)
                wrong[at] = "x"
                wrong[min(later, len(words) - 1)] = "x"
                self.refuses_words(wrong, at)

    def test_words_that_are_no_numbers(self):
        for name in NAMES:
            for size in (5, 133):
                words = words_of(name, size)
                for at in range(2, len(words)):
                    for word in ("", "0" + words[at], "00", "+" + words[at], "-" + words[at], "-0",
                                 "+0", "x", words[at] + "x", "0x1", "1.0", "1e3", "1_0", words[at] + "\n",
                                 "\t" + words[at], "\u0663", "\xb2", "None", "True"):
                        self.refuses_words(words[:at] + [word] + words[at + 1:], at)

    def test_numbers_of_more_than_40_digits(self):
        words = words_of("sha1", 128)
        length = 64 * 10 ** 38
        self.assertEqual(len(str(length)), 40)
        long_text = words[:2] + [str(length)] + words[3:]
        self.assertEqual(restore_digest(" ".join(long_text)).length, length)
        for digits in (41, 42, 100, 5000):
            self.refuses_words(words[:2] + ["64" + "0" * (digits - 2)] + words[3:], 2)
        for at in range(3, len(words)):
            self.refuses_words(words[:at] + ["1" * 41] + words[at + 1:], at)

    def test_the_greatest_length(self):
        # 10 ** 40 - 1 leaves 63 and 127 octets.
        length = 10 ** 40 - 1
        for name in NAMES:
            chain = [str(word) for word in range(len(first_chain(name)))]
            rest = ["9"] * (length % block_length(name))
            words = ["digest", name, "9" * 40] + chain + rest
            machine = restore_digest(" ".join(words))
            self.assertEqual(machine.length, length)
            self.assertEqual(machine.save(), " ".join(words))
            self.refuses_words(words[:-1], len(words) - 1)
            self.refuses_words(words + ["9"], len(words))

    def test_chain_words(self):
        for name in NAMES:
            limit = 2 ** (64 if name in LONG else 32)
            words = words_of(name, 130)
            for at in range(3, 3 + len(first_chain(name))):
                for number in (limit, limit + 1, 2 ** 64, 10 ** 39):
                    self.refuses_words(words[:at] + [str(number)] + words[at + 1:], at)
                for number in (0, 1, limit - 1):
                    other = " ".join(words[:at] + [str(number)] + words[at + 1:])
                    self.assertEqual(restore_digest(other).save(), other)

    def test_chain_words_before_the_first_block(self):
        for name in NAMES:
            for size in (0, 1, block_length(name) - 1):
                words = words_of(name, size)
                for at in range(3, 3 + len(first_chain(name))):
                    for number in (0, 1, int(words[at]) + 1, int(words[at]) - 1):
                        self.refuses_words(words[:at] + [str(number)] + words[at + 1:], at)

    def test_any_chain_from_the_first_block_on(self):
        for name in NAMES:
            for length in (block_length(name), block_length(name) * 5):
                chain = tuple(range(3, 3 + len(first_chain(name))))
                text = " ".join(["digest", name, str(length)] + [str(word) for word in chain])
                machine = restore_digest(text)
                self.assertEqual(machine.save(), text)
                block = message(block_length(name))
                machine.update(block)
                words = machine.save().split(" ")[3:]
                self.assertEqual(tuple(int(word) for word in words), compress(name, chain, block))

    def test_octets(self):
        for name in NAMES:
            words = words_of(name, block_length(name) + 3)
            for at in range(len(words) - 3, len(words)):
                for number in (256, 257, 1000, 2 ** 32):
                    self.refuses_words(words[:at] + [str(number)] + words[at + 1:], at)
                for number in (0, 255):
                    other = " ".join(words[:at] + [str(number)] + words[at + 1:])
                    self.assertEqual(restore_digest(other).save(), other)

    def test_too_few_words(self):
        for name in NAMES:
            for size in (0, 3, 64, 130):
                words = words_of(name, size)
                for many in range(1, len(words)):
                    self.refuses_words(words[:many], many)

    def test_too_many_words(self):
        for name in NAMES:
            for size in (0, 3, 64, 130):
                words = words_of(name, size)
                for more in (["0"], ["1", "2"], [""], ["x"], ["digest"]):
                    self.refuses_words(words + more, len(words))

    def test_empty_words(self):
        words = words_of("sha384", 4)
        for at in range(len(words) + 1):
            self.refuses_words(words[:at] + [""] + words[at:], at)

    def test_other_separators(self):
        text = " ".join(words_of("sha1", 2))
        self.refuses(text.replace(" ", "\n"), 0)
        self.refuses(text.replace(" ", "\t"), 0)
        self.refuses(text + "\n", len(text.split(" ")) - 1)

    def test_the_length_decides_how_many_octets_stand(self):
        words = words_of("sha256", 5)
        self.refuses_words(words[:2] + ["4"] + words[3:], len(words) - 1)
        self.refuses_words(words[:2] + ["6"] + words[3:], len(words))
        self.refuses_words(words[:2] + ["64"] + words[3:], len(words) - 5)
        longer = " ".join(words[:2] + ["69"] + words[3:])
        self.assertEqual(restore_digest(longer).length, 69)

    def test_the_number_of_bits_is_reduced(self):
        for name in NAMES:
            block, field = block_length(name), 16 if name in LONG else 8
            chain = tuple(range(11, 11 + len(first_chain(name))))
            zeros = (0,) * (block - field - 1)
            whole = 256 ** field // 8
            for length in (whole - block, whole, whole + block, 3 * whole + 5 * block, 70 * whole):
                words = ["digest", name, str(length)] + [str(word) for word in chain]
                bits = big(8 * length % 256 ** field, field)
                last = compress(name, chain, (128,) + zeros + bits)
                made = b"".join(word.to_bytes(field // 2, "big") for word in last)
                finished = restore_digest(" ".join(words)).finish()
                self.assertEqual(bytes(finished), made[:len(finished)], (name, length))


if __name__ == "__main__":
    unittest.main()
