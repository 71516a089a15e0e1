"""The class Reader: pieces of a derivation, its texts, and texts that are none."""

import unittest

from saltmill.digests import digest
from saltmill.errors import ChoiceError, LengthError
from saltmill.expansion import Reader, restore_reader
from tests.common import (BITS, BLOCKS, CHAINS, NAMES, NO_NAME_WORDS, SIZES, WRONG_NAMES, WRONG_OCTETS,
                          WRONG_SIZES, CommonTest, message)
from tests.derivations import SCHEMES, STRINGS, edge_sizes, expected

WRONG_COUNTS = (-1, -2, -4096, 4097, 5000, 10 ** 30)


def requests(size):
    """A request for each derivation and each digest."""
    for scheme in SCHEMES:
        for name in NAMES:
            yield (scheme, name, *STRINGS[scheme], size)


def most_numbers(request):
    """The greatest number of numbers in the text of a reader."""
    scheme, name, first, *others, _ = request
    many = 2 * CHAINS[name] + 3 * SIZES[name] + sum(len(string) for string in others) + 32
    return many + len(first) if scheme == "one_step" else many


def words_after(request, *counts):
    reader = Reader(request)
    for count in counts:
        reader.read(count)
    return reader.save().split(" ")


class PiecesTest(CommonTest):
    def test_example(self):
        for request in requests(4096):
            first, second = Reader(request), Reader(request)
            self.assertEqual(first.read(5) + first.read(7), second.read(12))
            self.assertEqual(len(first.read(4096)), 4084)
            self.assertEqual((first.left, first.read(1)), (0, ()))

    def test_whole_outputs(self):
        for request in requests(4096):
            reader = Reader(request)
            self.assertEqual(reader.read(4096), expected(*request))
            self.assertEqual((reader.left, reader.read(1), reader.read(4096)), (0, (), ()))

    def test_sizes(self):
        for name in NAMES:
            for size in edge_sizes(name):
                for scheme in SCHEMES:
                    request = (scheme, name, *STRINGS[scheme], size)
                    reader = Reader(request)
                    self.assertEqual(reader.left, size)
                    made = reader.read(4096)
                    self.assertIsInstance(made, tuple)
                    self.assertEqual(made, expected(*request))
                    self.assertEqual(reader.left, 0)

    def test_pieces_of_all_sizes(self):
        for request in requests(200):
            for step in (1, 3, 19, 20, 21, 28, 32, 48, 63, 64, 65, 128, 199, 200, 201, 4096):
                reader, made = Reader(request), ()
                while reader.left > 0:
                    piece = reader.read(step)
                    self.assertEqual(len(piece), min(step, 200 - len(made)))
                    made += piece
                    self.assertEqual(reader.left, 200 - len(made))
                self.assertEqual(made, expected(*request))
                self.assertEqual(reader.read(step), ())

    def test_a_beginning(self):
        for request in requests(150):
            reader = Reader(request)
            self.assertEqual(reader.read(70), expected(*request)[:70])
            self.assertEqual(reader.left, 80)

    def test_no_octets_at_all(self):
        for request in requests(70):
            reader, text = Reader(request), Reader(request).save()
            self.assertEqual((reader.read(0), reader.left, reader.save()), ((), 70, text))
            reader.read(64)
            text = reader.save()
            self.assertEqual((reader.read(0), reader.left, reader.save()), ((), 6, text))

    def test_refused_counts(self):
        for request in requests(100):
            for before in (0, 30, 100):
                reader = Reader(request)
                reader.read(before)
                text = reader.save()
                for count in WRONG_COUNTS:
                    with self.assertRaises(LengthError):
                        reader.read(count)
                    self.assertEqual((reader.left, reader.save()), (100 - before, text))
                self.assertEqual(reader.read(4096), expected(*request)[before:])

    def test_it_is_not_iterated(self):
        for request in requests(10):
            with self.assertRaises(TypeError):
                iter(Reader(request))

    def test_empty_and_long_strings(self):
        for scheme in SCHEMES:
            many = len(STRINGS[scheme])
            lengths = (4096, 249, 255) if scheme == "label" else (4096,) * many
            for strings in (((),) * many, tuple(message(length) for length in lengths)):
                request = (scheme, "sha256", *strings, 70)
                reader = Reader(request)
                self.assertEqual(reader.read(30) + reader.read(50), expected(*request))

    def test_wrong_requests(self):
        for scheme in SCHEMES:
            strings = STRINGS[scheme]
            wrong = [WRONG_NAMES] + [WRONG_OCTETS for _ in strings] + [WRONG_SIZES]
            if scheme == "label":
                for place, limit in ((2, 249), (3, 255)):
                    wrong[place] = WRONG_OCTETS + (((0,) * (limit + 1), LengthError),)
            self.raises_in_order(lambda *arguments, scheme=scheme: Reader((scheme, *arguments)),
                                 ("sha1", *strings, 30), wrong)

    def test_an_unknown_derivation(self):
        for scheme in ("", "HKDF", "hkdf_expand", "onestep", "scrypt", "labels", "sha1"):
            with self.assertRaises(ChoiceError):
                Reader((scheme, "sha1", (1,), (2,), (3,), 30))


class SaveTest(CommonTest):
    def test_the_first_words(self):
        for request in requests(40):
            for counts in ((), (1,), (40,)):
                words = words_after(request, *counts)
                self.assertEqual(words[:3], ["reader", request[0], request[1]])
                for word in words[3:]:
                    self.assertEqual(str(int(word)), word)
                    self.assertLessEqual(len(word), 40)

    def test_the_number_of_numbers(self):
        for request in requests(200):
            reader = Reader(request)
            for _ in range(202):
                self.assertLessEqual(len(reader.save().split(" ")) - 3, most_numbers(request))
                reader.read(1)

    def test_the_number_of_numbers_with_other_strings(self):
        for scheme in SCHEMES:
            many = len(STRINGS[scheme])
            lengths = (4096, 249, 255) if scheme == "label" else (4096,) * many
            for strings in (((),) * many, tuple(message(length) for length in lengths)):
                for name in NAMES:
                    for counts in ((), (1,), (64,), (65,), (150,)):
                        request = (scheme, name, *strings, 150)
                        many_numbers = len(words_after(request, *counts)) - 3
                        self.assertLessEqual(many_numbers, most_numbers(request))

    def test_saving_changes_nothing(self):
        for request in requests(100):
            reader = Reader(request)
            made = ()
            for count in (0, 10, 22, 40, 28):
                made += reader.read(count)
                self.assertEqual(reader.save(), reader.save())
                self.assertEqual(reader.left, 100 - len(made))
            self.assertEqual(made, expected(*request))

    def test_equal_keys_have_equal_texts(self):
        for request in requests(50):
            scheme, name, _, *others = request
            if scheme != "one_step":
                long = message(BLOCKS[name] + 1)
                for first, second in (((7,), (7, 0)), (long, digest(name, long))):
                    one = words_after((scheme, name, first, *others), 30)
                    other = words_after((scheme, name, second, *others), 30)
                    self.assertEqual(one, other)

    def test_pieces_do_not_matter(self):
        for request in requests(100):
            for end in (0, 1, 32, 64, 70, 100):
                reader = Reader(request)
                for _ in range(end):
                    reader.read(1)
                self.assertEqual(reader.save().split(" "), words_after(request, end))


class RestoreTest(CommonTest):
    def test_every_place(self):
        for request in requests(150):
            output, reader = expected(*request), Reader(request)
            for at in range(151):
                text = reader.save()
                restored = restore_reader(text)
                self.assertIsInstance(restored, Reader)
                self.assertEqual((restored.save(), restored.left), (text, 150 - at))
                self.assertEqual(restored.read(4096), output[at:])
                # The other one is not changed by what the restored one does.
                self.assertEqual((reader.save(), reader.left), (text, 150 - at))
                self.assertEqual(reader.read(1), output[at:at + 1])

    def test_again_and_again(self):
        for request in requests(200):
            for step in (1, 7, 20, 32, 64, 100):
                reader, made = Reader(request), ()
                while reader.left > 0:
                    made += reader.read(step)
                    reader = restore_reader(reader.save())
                self.assertEqual(made, expected(*request))

    def test_sizes(self):
        for name in NAMES:
            for size in edge_sizes(name) + (4095, 4096):
                for scheme in SCHEMES:
                    reader = Reader((scheme, name, *STRINGS[scheme], size))
                    self.assertEqual(restore_reader(reader.save()).left, size)
                    reader.read(1)
                    self.keeps(restore_reader, reader.save())

    def test_strings_at_their_limits(self):
        for scheme in SCHEMES:
            many = len(STRINGS[scheme])
            lengths = (4096, 249, 255) if scheme == "label" else (4096,) * many
            for strings in (((),) * many, tuple(message(length) for length in lengths)):
                for count in (0, 5, 32):
                    request = (scheme, "sha256", *strings, 4096)
                    reader = Reader(request)
                    made = reader.read(count)
                    self.keeps(restore_reader, reader.save())
                    made += restore_reader(reader.save()).read(100)
                    self.assertEqual(made, expected(*request)[:count + 100])

    def test_refused_counts_of_a_restored_reader(self):
        for request in requests(100):
            reader = Reader(request)
            reader.read(30)
            restored = restore_reader(reader.save())
            for count in WRONG_COUNTS:
                with self.assertRaises(LengthError):
                    restored.read(count)
            self.assertEqual(restored.save(), reader.save())

    def test_wrong_starts(self):
        for request in requests(100):
            self.refuses_wrong_starts(restore_reader, words_after(request, 3))

    def test_the_second_and_the_third_word(self):
        for request in requests(100):
            words = words_after(request, 3)
            for word in ("", "HKDF", "hkdf_expand", "kdf", "0", "sha1", "reader", "label_"):
                self.refuses_with(restore_reader, words, 1, word)
            for word in NO_NAME_WORDS + ("0", "counter"):
                self.refuses_with(restore_reader, words, 2, word)
            self.refuses_words(restore_reader, ["reader", "x", "x"] + words[3:], 1)

    def test_ordinary_faults(self):
        for scheme in SCHEMES:
            request = (scheme, "sha1", *[(1, 2) for _ in STRINGS[scheme]], 45)
            for counts in ((), (3,), (20,), (45,)):
                self.refuses_ordinary_faults(restore_reader, words_after(request, *counts), 3)
        for request in requests(100):
            words = words_after(request, 70)
            for many in range(1, len(words)):
                self.refuses_words(restore_reader, words[:many], many)
            self.refuses_words(restore_reader, words + ["0"], len(words))

    def test_numbers_that_are_out_of_range(self):
        for request in requests(100):
            for counts in ((), (3,), (70,), (100,)):
                words = words_after(request, *counts)
                for at in range(3, len(words)):
                    for number in (2 ** BITS[request[1]], 2 ** 64, 10 ** 39):
                        self.refuses_with(restore_reader, words, at, number)

    def test_other_numbers(self):
        # Whatever is taken is the text of the reader that it gives, which can be read to its end.
        for scheme in SCHEMES:
            request = (scheme, "sha1", *[(1, 2) for _ in STRINGS[scheme]], 45)
            for counts in ((), (3,), (20,), (45,)):
                words = words_after(request, *counts)
                for at in range(3, len(words)):
                    for number in (0, 1, 2, 44, 46, 255, 256, 4096, 4097, int(words[at]) + 1):
                        text = " ".join(words[:at] + [str(number)] + words[at + 1:])
                        try:
                            reader = restore_reader(text)
                        except ValueError as error:
                            self.assertTrue(3 <= error.at <= len(words), (error.at, text))
                        else:
                            self.assertEqual(reader.save(), text)
                            left = reader.left
                            self.assertEqual(len(reader.read(4096)), left)

    def test_the_numbers_of_this_program(self):
        # The size stands first, then the key, the strings with their lengths, what was read, a block.
        words = words_after(("label", "sha1", (1,), (2,), (3,), 45), 3)
        label, context, done = 14, 16, 18
        self.assertEqual((words[3], words[label:done + 1]), ("45", ["1", "2", "1", "3", "3"]))
        self.assertEqual(len(words), done + 1 + 20)
        for at, number in ((3, 0), (3, 4097), (label, 250), (context, 256), (label + 1, 256),
                           (context + 1, 256), (done, 46), (done + 1, 256)):
            self.refuses_with(restore_reader, words, at, number)
        for number in (3, 45, 4096):
            self.keeps(restore_reader, " ".join(words[:3] + [str(number)] + words[4:]))
        for number in (1, 45):
            self.keeps(restore_reader, " ".join(words[:done] + [str(number)] + words[done + 1:]))
        # A reader of which nothing was read has no block.
        self.refuses_words(restore_reader, words[:done] + ["0"] + words[done + 1:], done + 1)
        for scheme in SCHEMES:
            request = (scheme, "sha1", *STRINGS[scheme], 45)
            first = 4 if scheme == "one_step" else 14
            wrong = 250 if scheme == "label" else 4097
            self.refuses_with(restore_reader, words_after(request), first, wrong)


if __name__ == "__main__":
    unittest.main()
