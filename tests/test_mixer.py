"""The class Mixer: its steps, its texts, and texts that are none."""

import random
import unittest
from unittest import mock

from saltmill import mixing
from saltmill.errors import CostError, LengthError, OrderError
from saltmill.mixing import Mixer, mix, restore_mixer
from tests import second_scrypt
from tests.common import CommonTest
from tests.test_scrypt import ROWS, WRONG_N, WRONG_ROWS, some_words

ROW = some_words(32)
WIDE = some_words(64)


def steps_of(n, gap):
    return n + n * gap


def every_gap():
    """Every gap of some small n, with a row."""
    for n in (2, 4, 8):
        for gap in range(1, n + 1):
            yield ROW, n, gap
    for gap in (1, 3, 4):
        yield WIDE, 4, gap
    for gap in (1, 5, 7, 16):
        yield ROW, 16, gap


def made(words, n, gap, steps=0):
    mixer = Mixer(words, n, gap=gap)
    mixer.run(steps)
    return mixer


def words_behind(words, n, gap, steps):
    return made(words, n, gap, steps).save().split(" ")


class StepsTest(CommonTest):
    def test_example(self):
        mixer = Mixer((0,) * 32, 4, gap=3)
        self.assertEqual((mixer.steps, mixer.left), (0, 16))
        self.assertEqual((mixer.run(5), mixer.left), (5, 11))
        # The rows 0 and 3 are kept, and a turn has begun.
        self.assertEqual(len(mixer.save().split(" ")), 1 + 4 + 32 * (2 + 2))

    def test_whole_results(self):
        for words, n, gap in every_gap():
            mixer = Mixer(words, n, gap=gap)
            self.assertEqual((mixer.steps, mixer.left), (0, steps_of(n, gap)))
            self.assertEqual(mixer.run(10 ** 9), steps_of(n, gap))
            self.assertEqual((mixer.steps, mixer.left), (steps_of(n, gap), 0))
            self.assertEqual(mixer.result(), second_scrypt.mix(words, n), (n, gap))
            self.assertEqual(mixer.result(), mix(words, n))
            self.assertIsInstance(mixer.result(), tuple)

    def test_the_gap_is_one_without_a_word(self):
        mixer = Mixer(ROW, 4)
        self.assertEqual((mixer.left, mixer.save()), (8, made(ROW, 4, 1).save()))

    def test_all_rs(self):
        for r in range(1, 9):
            words = some_words(32 * r)
            self.assertEqual(made(words, 2, 2, 6).result(), second_scrypt.mix(words, 2))

    def test_runs_of_all_sorts(self):
        source = random.Random(62)
        for words, n, gap in every_gap():
            for most in (1, 2, 3, gap, gap + 1, 20):
                mixer, done = Mixer(words, n, gap=gap), 0
                while mixer.left > 0:
                    count = source.randrange(-1, most + 1)
                    self.assertEqual(mixer.run(count), min(max(count, 0), steps_of(n, gap) - done))
                    done = min(done + max(count, 0), steps_of(n, gap))
                    self.assertEqual((mixer.steps, mixer.left), (done, steps_of(n, gap) - done))
                self.assertEqual(mixer.result(), second_scrypt.mix(words, n))

    def test_no_steps(self):
        for steps in (0, 3, 5, 16):
            mixer = made(ROW, 4, 3, steps)
            text = mixer.save()
            for count in (0, -1, -5, -10 ** 30):
                self.assertEqual((mixer.run(count), mixer.steps, mixer.save()), (0, steps, text))
        self.assertEqual((mixer.run(1), mixer.run(100), mixer.steps), (0, 0, 16))

    def test_a_result_that_comes_too_early(self):
        for steps in range(16):
            mixer = made(ROW, 4, 3, steps)
            text = mixer.save()
            with self.assertRaises(OrderError):
                mixer.result()
            self.assertEqual((mixer.save(), mixer.steps), (text, steps))
            mixer.run(16)
            self.assertEqual(mixer.result(), second_scrypt.mix(ROW, 4))

    def test_a_step_makes_one_row_at_most(self):
        for words, n, gap in every_gap():
            mixer, calls = Mixer(words, n, gap=gap), []
            next_row = mixing.next_row

            def counted(row):
                calls.append(row)
                return next_row(row)
            with mock.patch.object(mixing, "next_row", counted):
                while mixer.left > 0:
                    before = len(calls)
                    mixer.run(1)
                    self.assertLessEqual(len(calls) - before, 1)

    def test_lists(self):
        words = list(ROW)
        mixer = Mixer(words, 4, gap=2)
        words[0] = words[0] ^ 1
        mixer.run(3)
        words.clear()
        mixer.run(100)
        self.assertEqual(mixer.result(), second_scrypt.mix(ROW, 4))
        words = list(ROW)
        made(words, 4, 2, 100)
        self.assertEqual(words, list(ROW))

    def test_wrong_arguments(self):
        gaps = tuple((gap, CostError) for gap in (0, -1, 5, 8, 10 ** 30))
        self.raises_in_order(lambda words, n, gap: Mixer(words, n, gap=gap), (ROW, 4, 4),
                             (WRONG_ROWS, WRONG_N, gaps))
        for words, n in ((WIDE, 65536), (some_words(256), 16384)):
            with self.assertRaises(CostError):
                Mixer(words, n)
        for words, _ in ROWS:
            with self.assertRaises(LengthError):
                Mixer(list(words), 65536)

    def test_the_greatest_n(self):
        for words, n in ((ROW, 65536), (WIDE, 32768), (some_words(256), 8192)):
            for gap in (1, n):
                mixer = Mixer(words, n, gap=gap)
                self.assertEqual((mixer.run(2), mixer.left), (2, n + n * gap - 2))
                self.keeps(restore_mixer, mixer.save())


class SaveTest(CommonTest):
    def test_word_by_word(self):
        for words, n, gap in every_gap():
            for steps in range(steps_of(n, gap) + 1):
                numbers = second_scrypt.numbers_of_mixer(words, n, gap, steps)
                expected = ["mixer"] + [str(number) for number in numbers]
                self.assertEqual(words_behind(words, n, gap, steps), expected, (n, gap, steps))

    def test_the_number_of_numbers(self):
        for words, n, gap in every_gap():
            rows = (n + gap - 1) // gap
            most = max(len(words_behind(words, n, gap, steps)) for steps in range(steps_of(n, gap) + 1))
            # With a gap of 1 no turn is ever begun and not at its end.
            self.assertEqual(most - 1, 4 + len(words) * (rows + (2 if gap > 1 else 1)))

    def test_saving_changes_nothing(self):
        for words, n, gap in every_gap():
            mixer = Mixer(words, n, gap=gap)
            while mixer.left > 0:
                state = (mixer.steps, mixer.left)
                self.assertEqual(mixer.save(), mixer.save())
                self.assertEqual((mixer.steps, mixer.left), state)
                mixer.run(1)
            self.assertEqual(mixer.result(), second_scrypt.mix(words, n))
            self.assertEqual((mixer.save(), mixer.result()), (mixer.save(), mixer.result()))

    def test_the_cuts_do_not_matter(self):
        for words, n, gap in every_gap():
            mixer = Mixer(words, n, gap=gap)
            for steps in range(steps_of(n, gap) + 1):
                self.assertEqual(mixer.save(), made(words, n, gap, steps).save())
                mixer = restore_mixer(mixer.save())
                mixer.run(1)


class RestoreTest(CommonTest):
    def test_every_step(self):
        for words, n, gap in every_gap():
            result = second_scrypt.mix(words, n)
            for steps in range(steps_of(n, gap) + 1):
                mixer = made(words, n, gap, steps)
                text = mixer.save()
                restored = restore_mixer(text)
                self.assertIsInstance(restored, Mixer)
                self.assertEqual(restored.save(), text)
                self.assertEqual((restored.steps, restored.left), (mixer.steps, mixer.left))
                self.assertEqual(restored.run(10 ** 9), steps_of(n, gap) - steps)
                self.assertEqual(restored.result(), result)
                # The other one is not changed by what the restored one does.
                self.assertEqual(mixer.save(), text)

    def test_again_and_again(self):
        for words, n, gap in every_gap():
            mixer = Mixer(words, n, gap=gap)
            while mixer.left > 0:
                mixer.run(1)
                mixer = restore_mixer(mixer.save())
            self.assertEqual(mixer.result(), second_scrypt.mix(words, n))

    def test_too_early(self):
        with self.assertRaises(OrderError):
            restore_mixer(made(ROW, 4, 3, 15).save()).result()

    def test_wrong_starts(self):
        for steps in (0, 5, 16):
            self.refuses_wrong_starts(restore_mixer, words_behind(ROW, 4, 3, steps))

    def test_ordinary_faults(self):
        for n, gap, steps in ((2, 1, 0), (2, 2, 3), (2, 2, 6), (4, 3, 5)):
            words = words_behind(ROW, n, gap, steps)
            self.refuses_ordinary_faults(restore_mixer, words, 1)

    def test_numbers_that_are_out_of_range(self):
        for steps in (0, 1, 4, 5, 7, 16):
            words = words_behind(ROW, 4, 3, steps)
            for at, numbers in ((1, (0, 9, 10 ** 39)), (2, (0, 1, 3, 5, 6, 65537, 131072, 2 ** 40)),
                                (3, (0, 5, 8)), (4, (17, 18, 10 ** 30))):
                for number in numbers:
                    self.refuses_with(restore_mixer, words, at, number)
            for at in range(5, len(words)):
                for number in (2 ** 32, 2 ** 64, 10 ** 39):
                    self.refuses_with(restore_mixer, words, at, number)
                self.keeps(restore_mixer, " ".join(words[:at] + [str(2 ** 32 - 1)] + words[at + 1:]))

    def test_n_and_r_together(self):
        # If n and r are too great together, the word of n is wrong.
        for r, n in ((2, 65536), (3, 32768), (8, 16384), (8, 65536)):
            self.refuses_words(restore_mixer, ["mixer", str(r), str(n), "1", "0"] + ["7"] * 32 * r, 2)
            self.refuses_words(restore_mixer, ["mixer", str(r), str(n), "0"], 2)
        for r, n in ((1, 65536), (2, 32768), (4, 16384), (8, 8192)):
            for gap in (1, n):
                self.keeps(restore_mixer, " ".join(["mixer", str(r), str(n), str(gap), "0"] + ["7"] * 32 * r))

    def test_the_rows_that_must_stand(self):
        # Behind d steps: x, the kept rows, and in a turn t.
        for n, gap in ((4, 1), (4, 2), (4, 3), (4, 4), (8, 3)):
            for steps in range(steps_of(n, gap) + 1):
                rows = 1 + (min(steps, n) + gap - 1) // gap
                if steps > n and (steps - n) % gap > 0:
                    rows += 1
                head = ["mixer", "1", str(n), str(gap), str(steps)]
                self.keeps(restore_mixer, " ".join(head + ["9"] * 32 * rows))
                self.refuses_words(restore_mixer, head + ["9"] * (32 * rows - 1), 5 + 32 * rows - 1)
                self.refuses_words(restore_mixer, head + ["9"] * (32 * rows + 1), 5 + 32 * rows)


if __name__ == "__main__":
    unittest.main()
