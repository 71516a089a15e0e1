"""The class Stretcher: steps and pieces, its texts, and texts that are none."""

import hashlib
import itertools
import random
import unittest

from saltmill.digests import digest
from saltmill.errors import CostError, LengthError
from saltmill.stretching import Stretcher, pbkdf2, restore_stretcher
from tests.common import (BITS, BLOCKS, CHAINS, NAMES, NO_NAME_WORDS, SIZES, WRONG_NAMES, WRONG_OCTETS,
                          WRONG_SIZES, CommonTest, message)
from tests.derivations import edge_sizes

WRONG_ROUNDS = tuple((rounds, CostError) for rounds in (0, -1, 1000001, 10 ** 30))
NO_READS = (-1, -2, -4096, 4097, 5000, 10 ** 30)
PASSWORD, SALT = message(8), message(9)


def expected(name, rounds, size):
    return tuple(hashlib.pbkdf2_hmac(name, bytes(PASSWORD), bytes(SALT), rounds, size))


def made(name, rounds, size):
    return Stretcher(name, PASSWORD, SALT, rounds, size)


def block_count(name, size):
    return (size + SIZES[name] - 1) // SIZES[name]


def ready_after(name, rounds, size, steps):
    return min(size, steps // rounds * SIZES[name])


def words_after(name, rounds, size, steps, count):
    machine = made(name, rounds, size)
    machine.run(steps)
    machine.read(count)
    return machine.save().split(" ")


class StepsTest(CommonTest):
    def test_example(self):
        machine = made("sha1", 3, 50)
        self.assertEqual((machine.steps_left, machine.ready, machine.left), (9, 0, 50))
        self.assertEqual(machine.run(7), 7)
        self.assertEqual((machine.steps_left, machine.ready, machine.left), (2, 40, 50))
        self.assertEqual(machine.read(30), expected("sha1", 3, 50)[:30])
        self.assertEqual((machine.steps_left, machine.ready, machine.left), (2, 10, 20))
        self.assertEqual(machine.run(7), 2)
        self.assertEqual(machine.read(4096), expected("sha1", 3, 50)[30:])
        self.assertEqual((machine.steps_left, machine.ready, machine.left), (0, 0, 0))
        self.assertEqual((machine.run(1), machine.read(1)), (0, ()))

    def test_whole_outputs(self):
        for name in NAMES:
            for size in edge_sizes(name):
                for rounds in (1, 2, 3):
                    machine = made(name, rounds, size)
                    steps = rounds * block_count(name, size)
                    self.assertEqual(machine.steps_left, steps)
                    self.assertEqual(machine.run(steps + 5), steps)
                    self.assertEqual((machine.steps_left, machine.ready, machine.left), (0, size, size))
                    octets = machine.read(4096)
                    self.assertIsInstance(octets, tuple)
                    self.assertEqual(octets, expected(name, rounds, size))
                    self.assertEqual(octets, pbkdf2(name, PASSWORD, SALT, rounds, size))

    def test_the_greatest_size(self):
        for name in NAMES:
            machine = made(name, 1, 4096)
            self.assertEqual(machine.run(10 ** 9), block_count(name, 4096))
            self.assertEqual(machine.ready, 4096)
            self.assertEqual(machine.read(4096), expected(name, 1, 4096))

    def test_the_greatest_number_of_rounds(self):
        machine = made("sha1", 1000000, 4096)
        self.assertEqual(machine.steps_left, 205 * 1000000)
        self.assertEqual(machine.run(3), 3)
        self.assertEqual((machine.steps_left, machine.ready), (205 * 1000000 - 3, 0))
        self.keeps(restore_stretcher, machine.save())

    def test_passwords_and_salts(self):
        for name in NAMES:
            block = BLOCKS[name]
            for password, salt in itertools.product((0, 1, block, block + 1, 4096), (0, 1, 64, 4096)):
                machine = Stretcher(name, message(password), message(salt), 2, 10)
                machine.run(2)
                made_by_python = hashlib.pbkdf2_hmac(name, bytes(message(password)), bytes(message(salt)), 2, 10)
                self.assertEqual(bytes(machine.read(10)), made_by_python)

    def test_what_is_ready_after_each_step(self):
        for name in NAMES:
            for rounds in (1, 2, 3):
                size = 2 * SIZES[name] + 3
                machine = made(name, rounds, size)
                for steps in range(3 * rounds):
                    self.assertEqual(machine.steps_left, 3 * rounds - steps)
                    self.assertEqual(machine.ready, ready_after(name, rounds, size, steps))
                    self.assertEqual(machine.left, size)
                    self.assertEqual(machine.run(1), 1)
                self.assertEqual((machine.run(1), machine.ready), (0, size))

    def test_run_and_read_in_every_way(self):
        for name in ("sha1", "sha512"):
            size = 2 * SIZES[name] + 10
            output = expected(name, 3, size)
            for run, count in itertools.product((1, 2, 3, 4, 5, 9), (1, 7, 19, 20, 64, 4096)):
                machine, octets, steps = made(name, 3, size), (), 0
                while machine.left > 0:
                    done = machine.run(run)
                    self.assertEqual(done, min(run, 9 - steps))
                    steps += done
                    ready = ready_after(name, 3, size, steps) - len(octets)
                    self.assertEqual(machine.ready, ready)
                    piece = machine.read(count)
                    self.assertEqual(len(piece), min(count, ready))
                    octets += piece
                    self.assertEqual(output[:len(octets)], octets)
                    self.assertEqual((machine.ready, machine.left),
                                     (ready - len(piece), size - len(octets)))

    def test_run_and_read_at_random(self):
        source = random.Random(51)
        for _ in range(200):
            name, rounds, size = source.choice(NAMES), source.randrange(1, 6), source.randrange(1, 200)
            machine, octets = made(name, rounds, size), ()
            while machine.left > 0:
                machine.run(source.randrange(2 * rounds + 2))
                octets += machine.read(source.randrange(100))
                if source.randrange(3) == 0:
                    machine = restore_stretcher(machine.save())
            self.assertEqual(octets, expected(name, rounds, size))
            self.assertEqual((machine.steps_left, machine.ready), (0, 0))

    def test_nothing_is_run_or_read(self):
        for name in NAMES:
            for steps in (0, 1, 3, 4, 9):
                machine = made(name, 3, 2 * SIZES[name] + 1)
                machine.run(steps)
                text, state = machine.save(), (machine.steps_left, machine.ready, machine.left)
                self.assertEqual((machine.run(0), machine.read(0)), (0, ()))
                self.assertEqual(machine.save(), text)
                self.assertEqual((machine.steps_left, machine.ready, machine.left), state)

    def test_refused_counts(self):
        for name in NAMES:
            size = 2 * SIZES[name] + 1
            for steps in (0, 1, 3, 5, 9):
                machine = made(name, 3, size)
                machine.run(steps)
                machine.read(5)
                text, state = machine.save(), (machine.steps_left, machine.ready, machine.left)
                for count in NO_READS:
                    with self.assertRaises(LengthError):
                        machine.read(count)
                for count in (-1, -2, -10 ** 30):
                    with self.assertRaises(CostError):
                        machine.run(count)
                self.assertEqual(machine.save(), text)
                self.assertEqual((machine.steps_left, machine.ready, machine.left), state)
                machine.run(9)
                self.assertEqual(machine.read(4096), expected(name, 3, size)[size - state[2]:])

    def test_wrong_arguments(self):
        self.raises_in_order(Stretcher, ("sha1", (1,), (2,), 1, 30),
                             (WRONG_NAMES, WRONG_OCTETS, WRONG_OCTETS, WRONG_ROUNDS, WRONG_SIZES))


class SaveTest(CommonTest):
    def test_the_form(self):
        for name in NAMES:
            for steps, count in ((0, 0), (1, 0), (3, 0), (5, 7), (9, 30), (9, 4096)):
                words = words_after(name, 3, 2 * SIZES[name] + 1, steps, count)
                self.assertEqual(words[:2], ["stretcher", name])
                for word in words[2:]:
                    self.assertEqual(str(int(word)), word)
                    self.assertLessEqual(len(word), 40)

    def test_the_number_of_numbers(self):
        for name in NAMES:
            for length in (0, 1, 100, 4096):
                for size in (1, SIZES[name] - 1, 2 * SIZES[name] + 5, 3 * SIZES[name]):
                    machine = Stretcher(name, PASSWORD, message(length), 2, size)
                    while machine.left > 0:
                        for count in (0, 3, 30):
                            machine.read(count)
                            most = 2 * CHAINS[name] + 2 * SIZES[name] + length + machine.ready + 8
                            self.assertLessEqual(len(machine.save().split(" ")) - 2, most)
                        machine.run(1)

    def test_saving_changes_nothing(self):
        for name in NAMES:
            size = 2 * SIZES[name] + 1
            machine, octets = made(name, 3, size), ()
            for _ in range(9):
                machine.run(1)
                octets += machine.read(10)
                state = (machine.steps_left, machine.ready, machine.left)
                self.assertEqual(machine.save(), machine.save())
                self.assertEqual((machine.steps_left, machine.ready, machine.left), state)
            self.assertEqual(octets + machine.read(4096), expected(name, 3, size))

    def test_the_cuts_do_not_matter(self):
        source = random.Random(56)
        for name in NAMES:
            size = 2 * SIZES[name] + 5
            for steps in range(10):
                ready = ready_after(name, 3, size, steps)
                for count in {0, min(1, ready), ready // 2, ready}:
                    text = " ".join(words_after(name, 3, size, steps, count))
                    for _ in range(3):
                        machine, done, octets = made(name, 3, size), 0, ()
                        while done < steps or len(octets) < count:
                            done += machine.run(min(source.randrange(3), steps - done))
                            octets += machine.read(min(source.randrange(20), count - len(octets)))
                            if source.randrange(4) == 0:
                                machine = restore_stretcher(machine.save())
                        self.assertEqual(machine.save(), text)

    def test_one_by_one(self):
        for name in NAMES:
            machine = made(name, 4, 100)
            while machine.run(1) == 1:
                pass
            whole = made(name, 4, 100)
            whole.run(1000)
            self.assertEqual(machine.save(), whole.save())
            for _ in range(30):
                machine.read(1)
            whole.read(30)
            self.assertEqual(machine.save(), whole.save())

    def test_equal_passwords_have_equal_texts(self):
        for name in NAMES:
            long = message(BLOCKS[name] + 1)
            for first, second in (((7,), (7, 0)), (long, digest(name, long)), ((), (0,))):
                texts = []
                for password in (first, second):
                    machine = Stretcher(name, password, SALT, 2, 50)
                    machine.run(3)
                    texts.append(machine.save())
                self.assertEqual(texts[0], texts[1])

    def test_the_arguments_matter(self):
        texts = [Stretcher(*arguments).save() for arguments in (
            ("sha1", (1,), (2,), 3, 40), ("sha1", (1, 1), (2,), 3, 40), ("sha1", (1,), (2, 2), 3, 40),
            ("sha1", (1,), (2,), 4, 40), ("sha1", (1,), (2,), 3, 41), ("sha256", (1,), (2,), 3, 40))]
        self.assertEqual(len(set(texts)), len(texts))


class RestoreTest(CommonTest):
    def test_every_place(self):
        for name in NAMES:
            size = 2 * SIZES[name] + 3
            output = expected(name, 2, size)
            for steps in range(7):
                for count in range(0, ready_after(name, 2, size, steps) + 1, 5):
                    machine = made(name, 2, size)
                    machine.run(steps)
                    machine.read(count)
                    text = machine.save()
                    restored = restore_stretcher(text)
                    self.assertIsInstance(restored, Stretcher)
                    self.assertEqual(restored.save(), text)
                    self.assertEqual((restored.steps_left, restored.ready, restored.left),
                                     (machine.steps_left, machine.ready, machine.left))
                    self.assertEqual(restored.run(100), 6 - steps)
                    self.assertEqual(restored.read(4096), output[count:])
                    # The other one is not changed by what the restored one does.
                    self.assertEqual(machine.save(), text)

    def test_again_and_again(self):
        for name in NAMES:
            for rounds, size in ((1, 1), (1, 150), (2, 64), (3, 129), (7, 20)):
                machine, octets = made(name, rounds, size), ()
                while machine.left > 0:
                    machine.run(1)
                    machine = restore_stretcher(machine.save())
                    octets += machine.read(9)
                    machine = restore_stretcher(machine.save())
                self.assertEqual(octets, expected(name, rounds, size))

    def test_long_salts(self):
        for salt in ((), message(4096)):
            machine = Stretcher("sha256", PASSWORD, salt, 2, 40)
            machine.run(1)
            restored = restore_stretcher(machine.save())
            restored.run(10)
            self.assertEqual(restored.read(40), pbkdf2("sha256", PASSWORD, salt, 2, 40))

    def test_refused_counts_of_a_restored_stretcher(self):
        machine = made("sha1", 3, 50)
        machine.run(4)
        restored = restore_stretcher(machine.save())
        for count in NO_READS:
            with self.assertRaises(LengthError):
                restored.read(count)
        with self.assertRaises(CostError):
            restored.run(-1)
        self.assertEqual(restored.save(), machine.save())

    def test_wrong_starts(self):
        for name in NAMES:
            self.refuses_wrong_starts(restore_stretcher, words_after(name, 3, 50, 4, 5))

    def test_the_name_of_the_digest(self):
        words = words_after("sha1", 3, 50, 4, 5)
        for word in NO_NAME_WORDS + ("0", "stretcher"):
            self.refuses_with(restore_stretcher, words, 1, word)
        self.refuses_words(restore_stretcher, ["stretcher", "x", "x"] + words[3:], 1)

    def test_ordinary_faults(self):
        for name in ("sha1", "sha512"):
            for steps, count in ((0, 0), (1, 0), (3, 0), (5, 7), (9, 4096)):
                words = words_after(name, 3, 2 * SIZES[name] + 1, steps, count)
                self.refuses_ordinary_faults(restore_stretcher, words, 2)

    def test_numbers_that_are_out_of_range(self):
        for name in NAMES:
            for steps, count in ((0, 0), (1, 0), (3, 0), (5, 7), (9, 4096)):
                words = words_after(name, 3, 2 * SIZES[name] + 1, steps, count)
                for at in range(2, len(words)):
                    for number in (2 ** BITS[name], 2 ** 64, 10 ** 39):
                        self.refuses_with(restore_stretcher, words, at, number)

    def test_other_numbers(self):
        # Whatever is taken is the text of the stretcher that it gives, which can be run to its end.
        for steps, count in ((0, 0), (1, 0), (3, 0), (3, 20), (5, 7), (9, 4096)):
            words = words_after("sha1", 3, 45, steps, count)
            for at in range(2, len(words)):
                for number in (0, 1, 2, 3, 9, 10, 44, 46, 255, 256, 4096, 4097, 1000001, int(words[at]) + 1):
                    text = " ".join(words[:at] + [str(number)] + words[at + 1:])
                    try:
                        machine = restore_stretcher(text)
                    except ValueError as error:
                        self.assertTrue(2 <= error.at <= len(words), (error.at, text))
                    else:
                        self.assertEqual(machine.save(), text)
                        if machine.steps_left < 1000:
                            left = machine.left
                            machine.run(1000)
                            self.assertEqual(machine.ready, left)
                            self.assertEqual(len(machine.read(4096)), left)

    def test_the_numbers_of_this_program(self):
        # Rounds and size stand first, then the chains, the salt, the steps and what was read.
        words = words_after("sha1", 3, 45, 7, 5)
        salt, steps, count = 14, 24, 25
        self.assertEqual(words[2:4] + [words[salt]] + words[steps:count + 1], ["3", "45", "9", "7", "5"])
        self.assertEqual(len(words), count + 1 + 2 * 20 + 35)
        for at, number in ((2, 0), (2, 1000001), (3, 0), (3, 4097), (salt, 4097), (salt + 1, 256),
                           (steps, 10), (count, 41), (count + 1, 256), (len(words) - 1, 256)):
            self.refuses_with(restore_stretcher, words, at, number)
        # More octets that were read leave fewer words, and none of a done block is left out.
        self.refuses_words(restore_stretcher, words[:count] + ["6"] + words[count + 1:], len(words) - 1)
        self.refuses_words(restore_stretcher, words[:count] + ["4"] + words[count + 1:], len(words))
        self.refuses_words(restore_stretcher, words[:steps] + ["6"] + words[steps + 1:], len(words) - 40)


if __name__ == "__main__":
    unittest.main()
