"""The class Filler: its lanes, its texts, and texts that are none."""

import functools
import random
import unittest

from saltmill.errors import CostError, OrderError
from saltmill.filling import Filler, argon2, restore_filler
from tests import second_argon2
from tests.common import CommonTest, message
from tests.test_argon2 import KINDS, ArgumentsTest

STRINGS = (message(5), message(8), message(2), message(3))
# Memory, passes and lanes.
SMALL = ((8, 1, 1), (8, 3, 1), (15, 2, 1), (16, 2, 2), (27, 2, 3), (40, 1, 2))
SIZE = 20


def columns_of(memory, lanes):
    return memory // (4 * lanes) * 4


def made(kind, memory, passes, lanes, size=SIZE):
    return Filler(kind, *STRINGS, memory, passes, lanes, size)


def fill_slices(filler, lanes, count):
    for _ in range(count):
        for lane in range(lanes):
            filler.fill(lane, 10 ** 9)


@functools.lru_cache(maxsize=None)
def all_blocks(kind, memory, passes, lanes):
    return second_argon2.all_blocks(kind, STRINGS, memory, passes, lanes, SIZE)


@functools.lru_cache(maxsize=None)
def expected(kind, memory, passes, lanes):
    return second_argon2.tag_of(all_blocks(kind, memory, passes, lanes), memory, passes, lanes, SIZE)


def expected_text(kind, memory, passes, lanes, slices, filled):
    """The text that the document demands when these slices are full and these blocks of the next one."""
    blocks, columns = all_blocks(kind, memory, passes, lanes), columns_of(memory, lanes)
    pass_number, slice_number = divmod(slices, 4)
    words = ["filler", kind, memory, passes, lanes, SIZE, pass_number, slice_number, *filled]
    words.extend(second_argon2.seed_of(kind, *STRINGS, memory, passes, lanes, SIZE))
    for lane in range(lanes):
        for column in range(columns):
            if column < slice_number * (columns // 4) + filled[lane]:
                words.extend(blocks[min(pass_number, passes - 1), lane, column])
            elif pass_number > 0:
                words.extend(blocks[pass_number - 1, lane, column])
    return " ".join(str(word) for word in words)


def random_order(filler, lanes, source, most):
    """Fill a whole matrix; each time as many blocks are filled as were asked for, if there is room."""
    while filler.left > 0:
        lane, count = source.randrange(lanes), source.randrange(-1, most)
        room, steps, left = filler.room(lane), filler.steps, filler.left
        done = filler.fill(lane, count)
        assert done == min(max(count, 0), room)
        assert (filler.steps, filler.left) == (steps + done, left - done)
        yield


class FillTest(ArgumentsTest):
    def test_example(self):
        filler = Filler("id", (1, 2), (3,) * 8, (), (), 8, 1, 1, 4)
        self.assertEqual((filler.steps, filler.left, filler.room(0)), (0, 8, 2))
        self.assertEqual((filler.fill(0, 100), filler.room(0), filler.left), (2, 2, 6))

    def test_whole_fillings(self):
        for kind in KINDS:
            for memory, passes, lanes in SMALL:
                filler = made(kind, memory, passes, lanes)
                total = passes * lanes * columns_of(memory, lanes)
                self.assertEqual((filler.steps, filler.left), (0, total))
                fill_slices(filler, lanes, 4 * passes)
                self.assertEqual((filler.steps, filler.left), (total, 0))
                self.assertEqual(filler.tag(), expected(kind, memory, passes, lanes))
                self.assertEqual(filler.tag(), argon2(kind, *STRINGS, memory, passes, lanes, SIZE))
                self.assertIsInstance(filler.tag(), tuple)

    def test_lanes_in_any_order(self):
        source = random.Random(76)
        for kind in KINDS:
            for memory, passes, lanes in SMALL + ((64, 2, 8),):
                for most in (2, 3, 20):
                    filler = made(kind, memory, passes, lanes)
                    for _ in random_order(filler, lanes, source, most):
                        pass
                    self.assertEqual(filler.tag(), expected(kind, memory, passes, lanes))

    def test_long_segments_in_any_order(self):
        # The lanes take turns, so that each of them goes on to its second address block.
        filler = made("i", 2 * 4 * 130, 1, 2)
        while filler.left > 0:
            filler.fill(0, 1)
            filler.fill(1, 1)
        self.assertEqual(filler.tag(), expected("i", 2 * 4 * 130, 1, 2))

    def test_lanes_backwards(self):
        for kind in KINDS:
            filler = made(kind, 27, 2, 3)
            while filler.left > 0:
                for lane in (2, 1, 0):
                    filler.fill(lane, 100)
            self.assertEqual(filler.tag(), expected(kind, 27, 2, 3))

    def test_room(self):
        filler = made("d", 40, 2, 2)
        # There are 20 columns, and 5 of them are a segment.
        for pass_number in range(2):
            for slice_number in range(4):
                before = 40 * pass_number + 10 * slice_number
                self.assertEqual((filler.room(0), filler.room(1), filler.steps), (5, 5, before))
                self.assertEqual((filler.fill(1, 2), filler.room(0), filler.room(1)), (2, 5, 3))
                self.assertEqual((filler.fill(1, 9), filler.room(0), filler.room(1)), (3, 5, 0))
                self.assertEqual((filler.fill(1, 9), filler.steps), (0, before + 5))
                self.assertEqual((filler.fill(0, 4), filler.room(0), filler.room(1)), (4, 1, 0))
                self.assertEqual(filler.fill(0, 9), 1)
        self.assertEqual((filler.room(0), filler.room(1), filler.steps, filler.left), (0, 0, 80, 0))
        self.assertEqual((filler.fill(0, 9), filler.fill(1, 1), filler.steps), (0, 0, 80))

    def test_no_blocks(self):
        filler = made("i", 16, 1, 2)
        for _ in range(4):
            text = filler.save()
            for count in (0, -1, -10 ** 30):
                self.assertEqual((filler.fill(0, count), filler.fill(1, count), filler.save()), (0, 0, text))
            filler.fill(0, 1)

    def test_lanes_that_do_not_exist(self):
        for lanes, memory in ((1, 8), (2, 16), (8, 64)):
            filler = made("d", memory, 1, lanes)
            for slices in range(5):
                text = filler.save()
                for lane in (-1, lanes, lanes + 1, -lanes, 10 ** 30):
                    for count in (-1, 0, 1, 5):
                        with self.assertRaises(CostError):
                            filler.fill(lane, count)
                    with self.assertRaises(CostError):
                        filler.room(lane)
                self.assertEqual(filler.save(), text)
                fill_slices(filler, lanes, 1)

    def test_a_tag_that_comes_too_early(self):
        filler = made("id", 16, 2, 2)
        while filler.left > 0:
            text = filler.save()
            with self.assertRaises(OrderError):
                filler.tag()
            self.assertEqual(filler.save(), text)
            filler.fill(0 if filler.room(0) > 0 else 1, 1)
        self.assertEqual(filler.tag(), expected("id", 16, 2, 2))

    def test_wrong_arguments(self):
        self.refuses_arguments(Filler)


class SaveTest(CommonTest):
    def test_word_by_word(self):
        for kind in KINDS:
            for memory, passes, lanes in SMALL:
                filler, width = made(kind, memory, passes, lanes), columns_of(memory, lanes) // 4
                for slices in range(4 * passes):
                    filled = [0] * lanes
                    for lane in reversed(range(lanes)):
                        for count in (1, width):
                            self.assertEqual(filler.save(), expected_text(kind, memory, passes, lanes, slices, filled))
                            filled[lane] += filler.fill(lane, count)
                last = expected_text(kind, memory, passes, lanes, 4 * passes, [0] * lanes)
                self.assertEqual(filler.save(), last)
                numbers = len(last.split(" ")) - 1
                self.assertLessEqual(numbers, 71 + lanes + 128 * lanes * 4 * width)

    def test_the_start(self):
        words = made("id", 17, 3, 2).save().split(" ")
        self.assertEqual(words[:10], ["filler", "id", "17", "3", "2", "20", "0", "0", "0", "0"])
        self.assertEqual(len(words), 10 + 64)

    def test_saving_changes_nothing(self):
        filler = made("id", 16, 2, 2)
        while filler.left > 0:
            state = (filler.steps, filler.left, filler.room(0), filler.room(1))
            self.assertEqual(filler.save(), filler.save())
            self.assertEqual((filler.steps, filler.left, filler.room(0), filler.room(1)), state)
            filler.fill(0 if filler.room(0) > 0 else 1, 1)
        self.assertEqual((filler.tag(), filler.tag()), (expected("id", 16, 2, 2),) * 2)
        self.assertEqual(filler.save(), filler.save())

    def test_the_order_does_not_matter(self):
        source = random.Random(79)
        for kind in KINDS:
            one, other = made(kind, 27, 2, 3), made(kind, 27, 2, 3)
            while one.left > 0:
                counts = [source.randrange(3) for _ in range(3)]
                for lane in range(3):
                    one.fill(lane, min(counts[lane], max(one.room(lane) - 1, 0)))
                for lane in reversed(range(3)):
                    for _ in range(min(counts[lane], max(other.room(lane) - 1, 0))):
                        other.fill(lane, 1)
                self.assertEqual(one.save(), other.save())
                if source.randrange(3) == 0:
                    fill_slices(one, 3, 1)
                    fill_slices(other, 3, 1)


class RestoreTest(CommonTest):
    def test_every_place(self):
        for kind in KINDS:
            for memory, passes, lanes in ((8, 2, 1), (16, 2, 2)):
                filler = made(kind, memory, passes, lanes)
                while True:
                    text = filler.save()
                    restored = restore_filler(text)
                    self.assertIsInstance(restored, Filler)
                    self.assertEqual(restored.save(), text)
                    self.assertEqual((restored.steps, restored.left), (filler.steps, filler.left))
                    self.assertEqual([restored.room(lane) for lane in range(lanes)],
                                     [filler.room(lane) for lane in range(lanes)])
                    fill_slices(restored, lanes, 4 * passes)
                    self.assertEqual(restored.tag(), expected(kind, memory, passes, lanes))
                    # The other one is not changed by what the restored one does.
                    self.assertEqual(filler.save(), text)
                    if filler.left == 0:
                        break
                    filler.fill(lanes - 1 if filler.room(lanes - 1) > 0 else 0, 1)

    def test_again_and_again(self):
        source = random.Random(77)
        for kind in KINDS:
            for memory, passes, lanes in SMALL:
                filler = made(kind, memory, passes, lanes)
                while filler.left > 0:
                    for _ in range(3):
                        filler.fill(source.randrange(lanes), source.randrange(4))
                    filler = restore_filler(filler.save())
                self.assertEqual(filler.tag(), expected(kind, memory, passes, lanes))

    def test_in_a_long_segment(self):
        filler = made("i", 4 * 130, 1, 1)
        for count in (127, 1, 1, 1, 127, 1, 1):
            filler.fill(0, count)
            filler = restore_filler(filler.save())
        fill_slices(filler, 1, 4)
        self.assertEqual(filler.tag(), expected("i", 4 * 130, 1, 1))

    def test_too_early(self):
        filler = made("d", 8, 1, 1)
        fill_slices(filler, 1, 3)
        restored = restore_filler(filler.save())
        with self.assertRaises(OrderError):
            restored.tag()
        with self.assertRaises(CostError):
            restored.room(1)


def some_words(memory=27, passes=2, lanes=3, slices=5, counts=(1, 0, 2)):
    filler = made("id", memory, passes, lanes)
    fill_slices(filler, lanes, slices)
    for lane, count in enumerate(counts):
        filler.fill(lane, count)
    return filler.save().split(" ")


class NoFillerTest(CommonTest):
    def test_wrong_starts(self):
        for slices in (0, 5):
            self.refuses_wrong_starts(restore_filler, some_words(slices=slices))

    def test_the_kind(self):
        words = some_words()
        for word in ("", "D", "ID", "di", "argon2id", "0", "2", "x", "filler", "sha1"):
            self.refuses_with(restore_filler, words, 1, word)
        self.refuses_words(restore_filler, ["filler", "x", "x"], 1)

    def test_ordinary_faults(self):
        words = made("id", 8, 1, 1).save().split(" ")
        self.refuses_ordinary_faults(restore_filler, words, 2)

    def test_ordinary_faults_among_the_blocks(self):
        words = some_words()
        # The seed ends at the word 74.
        for at in (75, 76, 200, 201, len(words) - 1):
            for word in ("", "x", "01", "-1", "+1", "1" * 41, str(2 ** 64), str(10 ** 39)):
                self.refuses_with(restore_filler, words, at, word)
            self.refuses_words(restore_filler, words[:at], at)
            self.keeps(restore_filler, " ".join(words[:at] + [str(2 ** 64 - 1)] + words[at + 1:]))
        for more in (["0"], [""], ["x"], ["0"] * 128):
            self.refuses_words(restore_filler, words + more, len(words))

    def test_numbers_that_are_out_of_range(self):
        # Memory 27 and 3 lanes: segments of 2 columns. Five slices are full: pass 1, slice 1.
        words = some_words()
        self.assertEqual(words[2:11], ["27", "2", "3", "20", "1", "1", "1", "0", "2"])
        for at, numbers in ((2, (4097, 10 ** 30)), (3, (0, 17)), (4, (0, 9, 10 ** 30)), (5, (3, 513)), (6, (3, 17)),
                            (7, (4, 5)), (8, (3, 4, 100)), (9, (3,)), (10, (3,)), (11, (256,)), (74, (256,))):
            for number in numbers:
                self.refuses_with(restore_filler, words, at, number)

    def test_a_memory_that_is_too_small(self):
        # It is found at the word of the lanes, however small it is.
        words = some_words()
        for memory, lanes in ((23, 3), (15, 2), (8, 2), (7, 1), (0, 1), (1, 8)):
            self.refuses_words(restore_filler, ["filler", "d", str(memory), "2", str(lanes)] + words[5:], 4)
            # What stands before the lanes comes first.
            self.refuses_words(restore_filler, ["filler", "d", str(memory), "0", str(lanes)] + words[5:], 3)
            self.refuses_words(restore_filler, ["filler", "d", str(memory)], 3)
        for memory, lanes in ((8, 1), (16, 2), (24, 3), (64, 8), (4096, 8)):
            head = ["filler", "d", str(memory), "1", str(lanes), "4", "0", "0"] + ["0"] * lanes
            self.keeps(restore_filler, " ".join(head + ["255"] * 64))

    def test_full_segments(self):
        # If the segments of all lanes are full, the last number of a lane is wrong.
        for memory, lanes, width in ((8, 1, 2), (16, 2, 2), (27, 3, 2), (40, 2, 5)):
            for pass_number in (0, 1):
                head = ["filler", "d", str(memory), "2", str(lanes), "4", str(pass_number), "2"]
                tail = ["0"] * (64 + 128 * memory)
                for last in (width, width + 1):
                    counts = [str(width)] * (lanes - 1) + [str(last)]
                    self.refuses_words(restore_filler, head + counts + tail, 8 + lanes - 1)
                if lanes > 1:
                    # Only one lane is not full, whichever it is.
                    for lane in range(lanes):
                        counts = [width] * lanes
                        counts[lane] = width - 1
                        filled = [(4 * width if pass_number else 2 * width + count) for count in counts]
                        blocks = ["5"] * 128 * sum(filled)
                        self.keeps(restore_filler, " ".join(head + [str(n) for n in counts] + ["0"] * 64 + blocks))

    def test_the_end(self):
        filler = made("i", 16, 2, 2)
        fill_slices(filler, 2, 8)
        words = filler.save().split(" ")
        self.assertEqual(words[6:10], ["2", "0", "0", "0"])
        self.assertEqual(len(words), 10 + 64 + 128 * 16)
        for at, numbers in ((6, (3, 4)), (7, (1, 2, 3, 4)), (8, (1, 2)), (9, (1, 2))):
            for number in numbers:
                self.refuses_with(restore_filler, words, at, number)
        self.refuses_words(restore_filler, words[:-1], len(words) - 1)
        self.refuses_words(restore_filler, words + ["0"], len(words))

    def test_how_many_blocks_must_stand(self):
        words = some_words(slices=2)
        # In pass 0 the columns of full slices and those of the current one stand, and no others.
        self.assertEqual(words[6:11], ["0", "2", "1", "0", "2"])
        self.assertEqual(len(words), 11 + 64 + 128 * (3 * 4 + 3))
        self.refuses_words(restore_filler, words[:7] + ["1"] + words[8:], len(words) - 128 * 6)
        self.refuses_words(restore_filler, words[:7] + ["3"] + words[8:], len(words))
        self.refuses_words(restore_filler, words[:6] + ["1"] + words[7:], len(words))


if __name__ == "__main__":
    unittest.main()
