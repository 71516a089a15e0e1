"""What several tests need: values that are wrong, and ways to hand them in."""

import itertools
import unittest

from saltmill.errors import ChoiceError, LengthError, OctetError, StateError

NAMES = ("sha1", "sha224", "sha256", "sha384", "sha512")
BLOCKS = {"sha1": 64, "sha224": 64, "sha256": 64, "sha384": 128, "sha512": 128}
SIZES = {"sha1": 20, "sha224": 28, "sha256": 32, "sha384": 48, "sha512": 64}
CHAINS = {"sha1": 5, "sha224": 8, "sha256": 8, "sha384": 8, "sha512": 8}
BITS = {"sha1": 32, "sha224": 32, "sha256": 32, "sha384": 64, "sha512": 64}

NO_NAMES = ("", "sha", "SHA1", "sha256 ", " sha256", "sha-256", "sha2", "sha5122", "sha51", "md5",
            "blake2b", "digest", "hkdf")
# Those of them that are a single word of a text.
NO_NAME_WORDS = tuple(name for name in NO_NAMES if " " not in name)
NO_OCTETS = (None, [], [1, 2], "abc", b"abc", 3, True, {}, (True,), (-1,), (256,), ("a",), (1, None),
             (1.0,), ((1,),), (0,) * 4097 + (256,))
TOO_LONG = (0,) * 4097
NO_STRINGS = (None, 0, 7, b"blake", ("keyed",), ["reader", "hkdf"], {}, True)

# The errors for one parameter that should be an octet string of at most 4096 octets.
WRONG_OCTETS = tuple((value, OctetError) for value in NO_OCTETS) + ((TOO_LONG, LengthError),)
WRONG_NAMES = tuple((name, ChoiceError) for name in NO_NAMES)
WRONG_SIZES = tuple((size, LengthError) for size in (0, -1, -4096, 4097, 5000, 10 ** 30))


def message(size, start=0):
    return tuple((start * 29 + size * 13 + place * 7 + place * place) % 256 for place in range(size))


def octets_of(text):
    return tuple(text.encode("ascii"))


def octets_of_hex(digits):
    return tuple(bytes.fromhex(digits))


def no_numbers(word):
    """Words that are no canonical numeral, made from one that is."""
    return ("", "0" + word, "00", "+" + word, "-" + word, "-0", "+0", "x", word + "x", "0x1", "1.0",
            "1e3", "1_0", word + "\n", "\t" + word, "\u0663", "\xb2", "None", "True", "1" * 41,
            "9" * 5000)


class CommonTest(unittest.TestCase):
    def refuses(self, restore, text, at):
        """The text is refused, and the word of this index is to blame."""
        with self.assertRaises(StateError, msg=repr(text)[:200]) as caught:
            restore(text)
        self.assertEqual(caught.exception.at, at, repr(text)[:200])

    def refuses_words(self, restore, words, at):
        self.refuses(restore, " ".join(words), at)

    def refuses_with(self, restore, words, at, word):
        """The words are refused if another word stands at this index, which is to blame."""
        self.refuses_words(restore, words[:at] + [str(word)] + words[at + 1:], at)

    def keeps(self, restore, text):
        """The text is the text of the machine that is restored from it."""
        self.assertEqual(restore(text).save(), text)

    def refuses_ordinary_faults(self, restore, words, first):
        """Faults that no saved text has; the numbers begin at the word `first`."""
        for at in range(first, len(words)):
            for word in no_numbers(words[at]):
                self.refuses_with(restore, words, at, word)
            # Both words are wrong, and the first one counts.
            self.refuses_words(restore, words[:at] + ["x"] + ["y"] * (len(words) - at - 1), at)
        for many in range(1, len(words)):
            self.refuses_words(restore, words[:many], many)
        for more in (["0"], ["1", "2"], [""], ["x"], [words[0]]):
            self.refuses_words(restore, words + more, len(words))
        for at in range(len(words) + 1):
            self.refuses_words(restore, words[:at] + [""] + words[at:], at)

    def refuses_wrong_starts(self, restore, words):
        """Texts that are none, and texts that begin with another word."""
        for value in NO_STRINGS:
            self.refuses(restore, value, 0)
        for text in ("", " ", "\n", " " + " ".join(words), "sha1"):
            self.refuses(restore, text, 0)
        for word in (words[0].upper(), words[0].title(), words[0] + "s", words[0][:-1], "", "0", "digest",
                     words[0] + "\n"):
            self.refuses_with(restore, words, 0, word)
        self.refuses(restore, " ".join(words).replace(" ", "\t"), 0)
        self.refuses(restore, words[0], 1)
        self.refuses(restore, words[0] + " ", 1)

    def raises_in_order(self, function, right, wrong):
        """One wrong argument raises its error; of two, the first one counts.

        `right` are arguments that can be used, and `wrong` are lists of pairs of a value and an
        error, one list for each parameter.
        """
        for at, pairs in enumerate(wrong):
            for value, error in pairs:
                with self.assertRaises(error, msg=(at, str(value)[:50])) as caught:
                    function(*right[:at], value, *right[at + 1:])
                self.assertIs(caught.exception.__class__, error)
        for first, second in itertools.combinations(range(len(wrong)), 2):
            for value, error in wrong[first]:
                for later, _ in wrong[second][::3] + wrong[second][-1:]:
                    arguments = list(right)
                    arguments[first] = value
                    arguments[second] = later
                    with self.assertRaises(error, msg=(first, second)) as caught:
                        function(*arguments)
                    self.assertIs(caught.exception.__class__, error)
