"""The texts of the class Blake, and texts that are none."""

import hashlib
import unittest
from math import isqrt

from saltmill.blake import Blake, compress, restore_blake
from tests.common import CommonTest, message

INITIAL = tuple(isqrt(prime << 128) % 2 ** 64 for prime in (2, 3, 5, 7, 11, 13, 17, 19))
LENGTHS = (0, 1, 2, 63, 127, 128, 129, 130, 255, 256, 257, 384, 385, 400)
KEY_LENGTHS = (0, 1, 32, 63, 64)


def words_of(size, key, octets):
    machine = Blake(size, key)
    machine.update(octets)
    return machine.save().split(" ")


def start_state(size, key_length):
    return (INITIAL[0] ^ (16842752 + 256 * key_length + size),) + INITIAL[1:]


def expected_words(size, key, octets):
    """The words that the document demands, computed block by block."""
    whole = octets
    if key:
        whole = key + (0,) * (128 - len(key)) + octets
    state, done = start_state(size, len(key)), 0
    while len(whole) - done > 128:
        block = bytes(whole[done:done + 128])
        words = [int.from_bytes(block[at:at + 8], "little") for at in range(0, 128, 8)]
        done += 128
        state = compress(state, words, done, False)
    numbers = (size, len(key), done) + state + whole[done:]
    return ["blake"] + [str(number) for number in numbers]


class SaveTest(CommonTest):
    def test_word_by_word(self):
        for key_length in KEY_LENGTHS:
            for length in LENGTHS:
                for size in (1, 20, 64):
                    key, octets = message(key_length), message(length)
                    self.assertEqual(words_of(size, key, octets), expected_words(size, key, octets))

    def test_a_whole_text(self):
        text = ("blake 64 0 0 7640891576939301192 13503953896175478587 4354685564936845355 "
                "11912009170470909681 5840696475078001361 11170449401992604703 2270897969802886507 "
                "6620516959819538809 7 0 255")
        machine = Blake()
        machine.update((7, 0, 255))
        self.assertEqual(machine.save(), text)
        self.assertEqual(Blake().save(), text[:-len(" 7 0 255")])

    def test_a_full_block_waits(self):
        for key_length in KEY_LENGTHS:
            machine = Blake(64, message(key_length))
            before = 0 if key_length == 0 else 128
            machine.update(message(128))
            for _ in range(2):
                words = machine.save().split(" ")
                self.assertEqual((words[3], len(words)), (str(before), 12 + 128))
                machine.update(())
            machine.update((1,))
            words = machine.save().split(" ")
            self.assertEqual((words[3], words[12:]), (str(before + 128), ["1"]))

    def test_the_block_of_the_key_waits(self):
        words = Blake(10, (3, 4)).save().split(" ")
        self.assertEqual(words[:4], ["blake", "10", "2", "0"])
        self.assertEqual(words[12:], ["3", "4"] + ["0"] * 126)

    def test_saving_changes_nothing(self):
        for key in ((), (1, 2)):
            machine = Blake(64, key)
            for length in (0, 130, 126, 128):
                machine.update(message(length))
                taken, digest = machine.taken, machine.finish()
                self.assertEqual(machine.save(), machine.save())
                self.assertEqual((machine.taken, machine.finish()), (taken, digest))

    def test_pieces_do_not_matter(self):
        for key in ((), (1, 2)):
            octets = message(300)
            machine = Blake(64, key)
            for octet in octets:
                machine.update((octet,))
            self.assertEqual(machine.save().split(" "), words_of(64, key, octets))


class RestoreTest(CommonTest):
    def test_every_saved_text(self):
        for key_length in (0, 1, 64):
            for length in range(300):
                text = " ".join(words_of(50, message(key_length), message(length)))
                machine = restore_blake(text)
                self.assertIsInstance(machine, Blake)
                self.assertEqual((machine.save(), machine.taken), (text, length))

    def test_every_size_and_key(self):
        for number in range(65):
            for length in (0, 1, 200):
                key, octets = message(number), message(length)
                size = 64 - number if number < 64 else 1
                text = " ".join(words_of(size, key, octets))
                machine = restore_blake(text)
                self.assertEqual(machine.save(), text)
                machine.update((5,))
                made = hashlib.blake2b(bytes(octets + (5,)), digest_size=size, key=bytes(key))
                self.assertEqual(bytes(machine.finish()), made.digest())

    def test_wrong_starts(self):
        self.refuses_wrong_starts(restore_blake, words_of(64, (), (1, 2)))
        for word in ("keyed", "reader", "Blake", "blake2b"):
            self.refuses_with(restore_blake, words_of(64, (), (1, 2)), 0, word)

    def test_words_that_are_no_numbers(self):
        for key_length in (0, 3):
            for length in (0, 1, 130):
                words = words_of(64, message(key_length), message(length))
                # What waits may have any length, so fewer words may be a text as well.
                for at in range(1, len(words)):
                    for word in ("", "0" + words[at], "00", "+" + words[at], "-" + words[at], "-0", "x",
                                 words[at] + "x", "0x1", "1.0", "1_0", words[at] + "\n", "\t" + words[at],
                                 "\u0663", "\xb2", "1" * 41, "0" * 41):
                        self.refuses_with(restore_blake, words, at, word)
                for at in range(len(words)):
                    self.refuses_words(restore_blake, words[:at] + ["x"] * (len(words) - at), at)
                    self.refuses_words(restore_blake, words[:at] + [""] + words[at:], at)
                self.refuses_words(restore_blake, words + [""], len(words))

    def test_the_size(self):
        for size in (0, 65, 66, 128, 2 ** 64, 10 ** 39):
            self.refuses_with(restore_blake, words_of(64, (), ()), 1, size)
            self.refuses_with(restore_blake, words_of(64, (1,), message(200)), 1, size)
        for size in (1, 2, 63, 64):
            self.keeps(restore_blake, " ".join(words_of(size, (), message(200))))

    def test_the_size_decides_the_first_word(self):
        words = words_of(64, (), (1, 2))
        self.refuses_words(restore_blake, words[:1] + ["63"] + words[2:], 4)
        # After the first compression any words may stand there.
        words = words_of(64, (), message(129))
        self.keeps(restore_blake, " ".join(words[:1] + ["63"] + words[2:]))

    def test_the_length_of_the_key(self):
        for length in (65, 66, 128, 2 ** 64, 10 ** 39):
            self.refuses_with(restore_blake, words_of(64, (), ()), 2, length)
            self.refuses_with(restore_blake, words_of(64, (1,), message(200)), 2, length)
        words = words_of(64, (1, 2), ())
        for length in (0, 1, 3, 64):
            self.refuses_words(restore_blake, words[:2] + [str(length)] + words[3:], 4)
        words = words_of(64, (1, 2), (3,))
        for length in (0, 1, 3, 64):
            self.keeps(restore_blake, " ".join(words[:2] + [str(length)] + words[3:]))

    def test_the_number_of_octets(self):
        words = words_of(64, (), message(300))
        for number in (1, 64, 127, 129, 255, 257, 300, 2 ** 64 + 1, 10 ** 39 + 1):
            self.refuses_with(restore_blake, words, 3, number)
        for number in (128, 256, 384, 2 ** 64, 2 ** 65 + 128, 128 * 10 ** 37, 10 ** 40 - 128):
            text = " ".join(words[:3] + [str(number)] + words[4:])
            self.keeps(restore_blake, text)
            self.assertEqual(restore_blake(text).taken, number + len(words) - 12)
        # Nothing compressed means the words of the start, and these are others.
        self.refuses_words(restore_blake, words[:3] + ["0"] + words[4:], 4)

    def test_great_numbers_count_in_the_next_compression(self):
        for number in (2 ** 64 - 128, 2 ** 64, 5 * 2 ** 64 + 256):
            words = ["blake", "64", "0", str(number)] + [str(word) for word in range(8)] + ["1"]
            machine = restore_blake(" ".join(words))
            state = compress(tuple(range(8)), (1,) + (0,) * 15, number + 1, True)
            octets = b"".join(word.to_bytes(8, "little") for word in state)
            self.assertEqual(bytes(machine.finish()), octets)
            machine.update((0,) * 128)
            state = compress(tuple(range(8)), (1,) + (0,) * 15, number + 128, False)
            expected = [str(number + 128)] + [str(word) for word in state] + ["0"]
            self.assertEqual(machine.save().split(" ")[3:], expected)

    def test_the_state_before_the_first_compression(self):
        for key in ((), (1, 2)):
            words = words_of(64, key, ())
            for at in range(4, 12):
                right = int(words[at])
                for number in (0, 1, right + 1, right - 1, 2 ** 64, 2 ** 64 - 1, right + 2 ** 64):
                    self.refuses_with(restore_blake, words, at, number)
        words = words_of(64, (), message(128))
        self.refuses_with(restore_blake, words, 11, int(words[11]) ^ 1)

    def test_the_state_after_it(self):
        for key in ((), (1, 2)):
            words = words_of(64, key, message(140))
            for at in range(4, 12):
                for number in (2 ** 64, 2 ** 64 + 1, 10 ** 39):
                    self.refuses_with(restore_blake, words, at, number)
                for number in (0, 1, 2 ** 64 - 1):
                    self.keeps(restore_blake, " ".join(words[:at] + [str(number)] + words[at + 1:]))

    def test_octets_that_wait(self):
        for key, length in (((), 5), ((), 128), ((), 140), ((1, 2), 5), ((1, 2), 128)):
            words = words_of(64, key, message(length))
            for at in range(12, len(words)):
                for number in (256, 257, 1000, 2 ** 64):
                    self.refuses_with(restore_blake, words, at, number)
                for number in (0, 255):
                    self.keeps(restore_blake, " ".join(words[:at] + [str(number)] + words[at + 1:]))

    def test_the_block_of_the_key(self):
        for length in (1, 2, 63, 64):
            words = words_of(64, message(length), ())
            for at in range(12, 12 + length):
                self.refuses_with(restore_blake, words, at, 256)
                self.keeps(restore_blake, " ".join(words[:at] + ["255"] + words[at + 1:]))
            for at in range(12 + length, 140):
                for number in (1, 255, 256):
                    self.refuses_with(restore_blake, words, at, number)
            for many in range(1, 140):
                self.refuses_words(restore_blake, words[:many], many)
            for more in (["0"], ["1"], [""], ["x"], ["0", "0"]):
                self.refuses_words(restore_blake, words + more, 140)

    def test_too_few_words(self):
        for key, length in (((), 0), ((), 5), ((), 200), ((1,), 0), ((1,), 5)):
            words = words_of(64, key, message(length))
            for many in range(1, 12):
                self.refuses_words(restore_blake, words[:many], many)
        # At least one octet waits if something has been compressed.
        for key in ((), (1,)):
            words = words_of(64, key, message(129))
            self.refuses_words(restore_blake, words[:12], 12)
            self.keeps(restore_blake, " ".join(words[:12] + ["9"]))
        # And none needs to wait otherwise.
        self.keeps(restore_blake, " ".join(words_of(64, (), (1, 2))[:12]))

    def test_too_many_words(self):
        for length in (128, 256, 384):
            words = words_of(64, (), message(length))
            self.assertEqual(len(words), 140)
            for more in (["0"], ["1", "2"], [""], ["x"], ["256"], ["blake"]):
                self.refuses_words(restore_blake, words + more, 140)
        words = words_of(64, (), message(127))
        self.keeps(restore_blake, " ".join(words + ["1"]))
        self.refuses_words(restore_blake, words + ["1", "1"], 140)

    def test_the_first_wrong_word_counts(self):
        words = words_of(64, (), message(128))
        self.refuses_words(restore_blake, words[:20] + ["256"] + words[21:] + ["1"], 20)
        self.refuses_words(restore_blake, ["blake", "65", "65"], 1)
        self.refuses_words(restore_blake, ["blake", "64", "65", "1"], 2)
        self.refuses_words(restore_blake, ["blake", "64", "0", "1", "x"], 3)


if __name__ == "__main__":
    unittest.main()
