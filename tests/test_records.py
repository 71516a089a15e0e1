"""Password records: their texts, and texts that are none."""

import hashlib
import itertools
import unittest

from saltmill.errors import CostError, LengthError, OctetError, RecordError
from saltmill.octets import to_base64
from saltmill.records import check_password, make_record, parse_record, write_record
from tests import second_argon2, second_scrypt
from tests.common import NO_OCTETS, WRONG_OCTETS, CommonTest, message

SALT, TAG, PASSWORD = message(9, 1), message(20, 2), (112, 97, 115, 115, 119)
# The costs of each scheme, and how they are written.
COSTS = {
    "pbkdf2-sha1": ((3,), "c=3"),
    "pbkdf2-sha256": ((1000000,), "c=1000000"),
    "pbkdf2-sha512": ((1,), "c=1"),
    "scrypt": ((16, 2, 3), "n=16,r=2,p=3"),
    "argon2d": ((16, 1, 2), "m=16,t=1,p=2"),
    "argon2i": ((4096, 16, 8), "m=4096,t=16,p=8"),
    "argon2id": ((8, 2, 1), "m=8,t=2,p=1"),
}
SCHEMES = tuple(COSTS)
SMALL_COSTS = {"pbkdf2-sha1": (3,), "pbkdf2-sha256": (2,), "pbkdf2-sha512": (1,), "scrypt": (4, 2, 1),
               "argon2d": (17, 1, 2), "argon2i": (8, 2, 1), "argon2id": (8, 1, 1)}
NO_SCHEMES = ("", "pbkdf2", "pbkdf2-sha224", "pbkdf2-sha384", "pbkdf2-md5", "PBKDF2-SHA1", "Scrypt", "argon2", "argon2D",
              "argon2id ", "sha1", "c=3")
NO_NUMBERS = (None, "3", True, False, 3.0, (3,))
WRONG_COSTS = {
    "pbkdf2-sha1": [(value,) for value in (0, -1, 1000001, 10 ** 30) + NO_NUMBERS],
    "scrypt": [(value, 1, 1) for value in (0, 1, 3, 6, -2, 131072, 10 ** 30) + NO_NUMBERS]
    + [(2, value, 1) for value in (0, -1, 9) + NO_NUMBERS] + [(2, 1, value) for value in (0, -1, 9) + NO_NUMBERS]
    + [(65536, 2, 1), (16384, 8, 1)],
    "argon2i": [(value, 1, 1) for value in (7, 0, -1, 4097, 10 ** 30) + NO_NUMBERS]
    + [(64, value, 1) for value in (0, -1, 17) + NO_NUMBERS] + [(64, 1, value) for value in (0, -1, 9) + NO_NUMBERS]
    + [(15, 1, 2), (63, 1, 8)],
}
WRONG_SALTS = WRONG_OCTETS + tuple(((5,) * length, LengthError) for length in (0, 1, 7, 65, 100))
WRONG_TAGS = WRONG_OCTETS + tuple(((5,) * length, LengthError) for length in (0, 1, 15, 65, 100))
WRONG_SIZES = tuple((size, LengthError) for size in (0, -1, 15, 65, 4096, 10 ** 30))


def expected_tag(scheme, costs, salt, size, password):
    if scheme == "scrypt":
        return second_scrypt.scrypt(password, salt, *costs, size)
    if scheme.startswith("argon2"):
        return second_argon2.argon2(scheme[6:], password, salt, (), (), *costs, size)
    return tuple(hashlib.pbkdf2_hmac(scheme[7:], bytes(password), bytes(salt), *costs, size))


def text_of(scheme="pbkdf2-sha1", costs="c=3", salt=None, tag=None):
    return f"${scheme}${costs}${to_base64(SALT) if salt is None else salt}${to_base64(TAG) if tag is None else tag}"


def wrong_costs():
    """Pairs of a scheme and costs that are wrong, with a CostError for each."""
    for scheme, many in WRONG_COSTS.items():
        for costs in many:
            yield scheme, costs
    for scheme, (costs, _) in COSTS.items():
        for wrong in ((), costs + (1,), costs[:-1], costs + costs, list(costs), None, 3, "c=3"):
            yield scheme, wrong
    for scheme in NO_SCHEMES + (None, 5, []):
        for costs in ((3,), (16, 2, 3), (16, 1, 2)):
            yield scheme, costs


class WriteTest(CommonTest):
    def test_every_scheme(self):
        for scheme, (costs, written) in COSTS.items():
            self.assertEqual(write_record((scheme, costs, SALT, TAG)), text_of(scheme, written))

    def test_salts_and_tags(self):
        for salt, tag in itertools.product((8, 9, 10, 11, 63, 64), (16, 17, 18, 63, 64)):
            record = ("argon2id", (8, 1, 1), message(salt), message(tag))
            text = write_record(record)
            self.assertEqual(text, text_of("argon2id", "m=8,t=1,p=1", to_base64(message(salt)), to_base64(message(tag))))
            self.assertEqual(parse_record(text), record)

    def test_costs_that_are_wrong(self):
        for scheme, costs in wrong_costs():
            for salt, tag in ((SALT, TAG), (None, TAG), (SALT, (1,)), ((), ())):
                with self.assertRaises(CostError, msg=(scheme, costs)):
                    write_record((scheme, costs, salt, tag))

    def test_the_order_of_errors(self):
        costs = tuple((value, CostError) for value in ((), (0,), (1, 2), None))
        schemes = tuple((value, CostError) for value in ("", "sha1", "scrypt"))
        self.raises_in_order(lambda *parts: write_record(parts), ("pbkdf2-sha1", (3,), SALT, TAG),
                             (schemes, costs, WRONG_SALTS, WRONG_TAGS))


class ParseTest(CommonTest):
    def wrong(self, text, at):
        for function in (parse_record, lambda text: check_password(text, PASSWORD), lambda text: check_password(text, None)):
            with self.assertRaises(RecordError, msg=repr(text)[:200]) as caught:
                function(text)
            self.assertEqual(caught.exception.at, at, repr(text)[:200])

    def test_every_scheme(self):
        for scheme, (costs, written) in COSTS.items():
            record = parse_record(text_of(scheme, written))
            self.assertEqual(record, (scheme, costs, SALT, TAG))
            self.assertIsInstance(record, tuple)
            for part in record[1:]:
                self.assertIsInstance(part, tuple)
            self.assertEqual(write_record(record), text_of(scheme, written))

    def test_costs_just_inside(self):
        for scheme, written in (("pbkdf2-sha1", "c=1"), ("pbkdf2-sha1", "c=1000000"), ("scrypt", "n=65536,r=1,p=8"),
                                ("scrypt", "n=2,r=8,p=1"), ("scrypt", "n=8192,r=8,p=8"), ("argon2d", "m=8,t=1,p=1"),
                                ("argon2i", "m=64,t=16,p=8"), ("argon2id", "m=4096,t=16,p=8")):
            self.assertEqual(write_record(parse_record(text_of(scheme, written))), text_of(scheme, written))

    def test_what_is_no_text_of_five_parts(self):
        right = text_of()
        for value in (None, 5, (), [right], {}, b"$a$b$c$d", True, "", "$", "$$", "$$$", "$$$$$", right[1:], " " + right,
                      right + "$", "$" + right, "a" + right, right.replace("$", "!"), "pbkdf2-sha1", right[:-20].rstrip("$")[:20],
                      right.replace("$c=3", "c=3"), right.replace("c=3$", "c=3"), "x$pbkdf2-sha1$c=3$AAAAAAAAAAA$"):
            self.wrong(value, 0)

    def test_the_scheme(self):
        for scheme in NO_SCHEMES:
            self.wrong(text_of(scheme), 1)
            self.wrong(text_of(scheme, "x", "!", "!"), 1)
        self.wrong("$$$$", 1)

    def test_the_costs_of_pbkdf2(self):
        start = len("$pbkdf2-sha1$")
        for costs in ("", "c", "=", "c=", "3", "=3", "c3", "C=3", "n=3", "cc=3", "c==3", "c=3x", "c=x", "c=03", "c=00", "c=0",
                      "c=-1", "c=+3", "c= 3", " c=3", "c=3 ", "c=3.0", "c=1000001", "c=9999999999", "c=10000000000",
                      "c=" + "1" * 50, "c=" + "9" * 5000, "c=\u0663", "c=\xb2", "c=1_0", "c=3,", ",c=3", "c=3,c=3", ",", "c=3,r=1"):
            self.wrong(text_of("pbkdf2-sha1", costs), start)
            # What stands behind comes later.
            self.wrong(text_of("pbkdf2-sha1", costs, "!", "!"), start)

    def test_each_cost(self):
        for scheme, right, wrong in (
                ("scrypt", ("n=16", "r=2", "p=3"),
                 (("", "n=", "N=16", "m=16", "n=016", "n=1", "n=3", "n=0", "n=131072", "n=x", "16", "n=-2", "n=65537"),
                  ("", "r=", "R=2", "p=2", "r=0", "r=9", "r=02", "r=x", "n=16", "r=2 ", "2"),
                  ("", "p=", "r=3", "p=0", "p=9", "p=03", "p= 3", "p=3$"[:-1] + "x"))),
                ("argon2id", ("m=64", "t=2", "p=3"),
                 (("", "m=", "M=64", "n=64", "m=064", "m=4097", "m=x", "64", "m=-8", "m=10000000000"),
                  ("", "t=", "T=2", "p=2", "t=0", "t=17", "t=02", "t=x", "m=64"),
                  ("", "p=", "l=3", "p=0", "p=9", "p=03", "p=x", "t=2")))):
            starts = [len(f"${scheme}$"), len(f"${scheme}${right[0]},"), len(f"${scheme}${right[0]},{right[1]},")]
            for place in range(3):
                for word in wrong[place]:
                    parts = list(right)
                    parts[place] = word
                    self.wrong(text_of(scheme, ",".join(parts)), starts[place])
                    self.wrong(text_of(scheme, ",".join(parts), "!", "!"), starts[place])
                    # Of two wrong costs the first one counts, wherever the second one would be found.
                    for later in range(place + 1, 3):
                        both = list(parts)
                        both[later] = "x"
                        self.wrong(text_of(scheme, ",".join(both)), starts[place])

    def test_places_of_costs(self):
        # The letters are those of other places.
        self.wrong(text_of("scrypt", "r=2,n=16,p=3"), 8)
        self.wrong(text_of("scrypt", "n=16,p=3,r=2"), 8 + 5)
        self.wrong(text_of("argon2d", "m=64,p=3,t=2"), 9 + 5)
        self.wrong(text_of("argon2d", "t=2,m=64,p=3"), 9)
        self.wrong(text_of("argon2d", "m=64,t=2,t=3"), 9 + 9)

    def test_the_number_of_costs(self):
        for scheme, many in (("scrypt", ("", "n=16", "n=16,r=2", "n=16,r=2,p=3,", "n=16,r=2,p=3,p=3", ",", ",,,", "n=16,x",
                                         "n=16,r=2,p=3,x=4", "n=16;r=2;p=3")),
                             ("argon2i", ("", "m=64", "m=64,t=2", "m=64,t=2,p=3,p=3", "m=64,t=99", ",,,,"))):
            for costs in many:
                self.wrong(text_of(scheme, costs), len(f"${scheme}$"))

    def test_costs_together(self):
        for scheme, costs in (("scrypt", "n=65536,r=2,p=1"), ("scrypt", "n=16384,r=8,p=8"), ("argon2d", "m=7,t=1,p=1"),
                              ("argon2d", "m=0,t=1,p=1"), ("argon2i", "m=15,t=1,p=2"), ("argon2id", "m=63,t=16,p=8")):
            self.wrong(text_of(scheme, costs), len(f"${scheme}$"))
            # They come before the salt and the tag, and behind each single cost.
            self.wrong(text_of(scheme, costs, "!", "!"), len(f"${scheme}$"))
        self.wrong(text_of("scrypt", "n=65536,r=2,p=9"), len("$scrypt$n=65536,r=2,"))
        self.wrong(text_of("argon2d", "m=15,t=17,p=2"), len("$argon2d$m=15,"))
        self.wrong(text_of("argon2d", "m=0,t=1,p=9"), len("$argon2d$m=0,t=1,"))
        self.wrong(text_of("argon2d", "m=00,t=1,p=9"), len("$argon2d$"))

    def test_salts_and_tags(self):
        # Characters outside the alphabet, wrong lengths of the text, bits that are not zero, wrong lengths.
        spoilt = ("", "!", "A", "AB", "AAAAAAAAAA!", "AAAAAAAAAA=", "AAAAAAAAAAB", "AAAAAAAAA", " AAAAAAAAAAA", "AAAAAAAAAA",
                  "A" * 87 + "B", "A" * 85, "A" * 90, "\n" + "A" * 22, "A" * 20 + "-_", "A" * 5000)
        for scheme, (_, costs) in COSTS.items():
            start = len(f"${scheme}${costs}$")
            for text in spoilt + (to_base64((5,) * 7), to_base64((5,) * 65), to_base64(SALT) + "=", to_base64(SALT)[:-1] + "!"):
                self.wrong(text_of(scheme, costs, salt=text), start)
                self.wrong(text_of(scheme, costs, salt=text, tag="!"), start)
            start += len(to_base64(SALT)) + 1
            for text in spoilt + (to_base64((5,) * 15), to_base64((5,) * 65), to_base64(TAG) + "==", to_base64(TAG) + "\n"):
                self.wrong(text_of(scheme, costs, tag=text), start)


class MakeTest(CommonTest):
    def test_example(self):
        text = make_record("pbkdf2-sha256", (2,), (0,) * 8, 16, (112,))
        self.assertTrue(text.startswith("$pbkdf2-sha256$c=2$AAAAAAAAAAA$"))
        self.assertEqual(len(text), len("$pbkdf2-sha256$c=2$AAAAAAAAAAA$") + 22)
        self.assertEqual(parse_record(text)[3], tuple(hashlib.pbkdf2_hmac("sha256", b"p", bytes(8), 2, 16)))

    def test_every_scheme(self):
        for scheme, costs in SMALL_COSTS.items():
            for size in (16, 20, 64):
                for salt in (message(8), SALT, message(64)):
                    text = make_record(scheme, costs, salt, size, PASSWORD)
                    tag = expected_tag(scheme, costs, salt, size, PASSWORD)
                    self.assertEqual(text, write_record((scheme, costs, salt, tag)))

    def test_passwords(self):
        for scheme, costs in SMALL_COSTS.items():
            for length in (0, 1, 4096):
                text = make_record(scheme, costs, SALT, 16, message(length))
                self.assertEqual(parse_record(text)[3], expected_tag(scheme, costs, SALT, 16, message(length)))

    def test_costs_that_are_wrong(self):
        for scheme, costs in wrong_costs():
            for salt, size, password in ((SALT, 16, PASSWORD), (None, 16, PASSWORD), (SALT, 0, PASSWORD), (SALT, 16, None)):
                with self.assertRaises(CostError):
                    make_record(scheme, costs, salt, size, password)

    def test_the_order_of_errors(self):
        costs = tuple((value, CostError) for value in ((), (0,), (1, 2), None))
        schemes = tuple((value, CostError) for value in ("", "sha1", "scrypt"))
        self.raises_in_order(make_record, ("pbkdf2-sha1", (1,), SALT, 16, PASSWORD),
                             (schemes, costs, WRONG_SALTS, WRONG_SIZES, WRONG_OCTETS))


class CheckTest(CommonTest):
    def test_right_and_wrong_passwords(self):
        for scheme, costs in SMALL_COSTS.items():
            text = make_record(scheme, costs, SALT, 20, PASSWORD)
            self.assertIs(check_password(text, PASSWORD), True)
            for wrong in ((), PASSWORD[:-1], PASSWORD + (0,), PASSWORD + (1,), PASSWORD[::-1], (1,) * 4096):
                # A key of HMAC is extended with zeros, so that this one is the same key.
                same = wrong == PASSWORD + (0,) and not scheme.startswith("argon2")
                self.assertIs(check_password(text, wrong), same, (scheme, wrong))

    def test_every_part_counts(self):
        for scheme, costs in SMALL_COSTS.items():
            _, _, salt, tag = parse_record(make_record(scheme, costs, SALT, 16, PASSWORD))
            self.assertTrue(check_password(write_record((scheme, costs, salt, tag)), PASSWORD))
            for place in range(16):
                spoilt = tag[:place] + (tag[place] ^ 1,) + tag[place + 1:]
                self.assertFalse(check_password(write_record((scheme, costs, salt, spoilt)), PASSWORD))
            self.assertFalse(check_password(write_record((scheme, costs, salt + (0,), tag)), PASSWORD))
            self.assertFalse(check_password(write_record((scheme, (costs[0] * 2,) + costs[1:], salt, tag)), PASSWORD))
            other = SCHEMES[SCHEMES.index(scheme) - 1]
            self.assertFalse(check_password(write_record((other, SMALL_COSTS[other], salt, tag)), PASSWORD))

    def test_passwords_that_are_none(self):
        text = make_record("pbkdf2-sha1", (1,), SALT, 16, PASSWORD)
        for value in NO_OCTETS:
            with self.assertRaises(OctetError):
                check_password(text, value)
        with self.assertRaises(LengthError):
            check_password(text, (0,) * 4097)
        # The record comes first.
        for value in (None, (0,) * 4097):
            with self.assertRaises(RecordError):
                check_password(text + "!", value)


if __name__ == "__main__":
    unittest.main()
