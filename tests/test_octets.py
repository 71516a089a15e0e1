import base64
import unittest

from saltmill.errors import LengthError, OctetError, TextError
from saltmill.octets import (big, from_ascii, from_base64, from_big, from_hex, from_little,
                             is_octets, little, same_octets, to_base64, to_hex, xor)

NO_OCTETS = ([], [1, 2], None, "", "ab", b"", b"ab", 0, 7, True, {}, {1},
             (True,), (False,), (1, True), (-1,), (256,), (3, 256, 4), ("a",), (1, "1"),
             (None,), ((1,),), (1.0,), (1, [2]))
SINGLE = (to_hex, to_base64, from_big, from_little)
ALL_OCTETS = tuple(range(256))


def samples():
    """Octet strings of every length up to 70, and some longer ones."""
    for size in tuple(range(70)) + (255, 256, 1000, 4095, 4096):
        yield tuple((size * 31 + place * 89 + place * place) % 256 for place in range(size))


class Case(unittest.TestCase):
    def refuses_text(self, function, text, at):
        with self.assertRaises(TextError, msg=repr(text)) as caught:
            function(text)
        self.assertEqual(caught.exception.at, at, repr(text))


class OctetStringTest(Case):
    def test_is_octets(self):
        for value in ((), (0,), (255,), (0, 255, 1), ALL_OCTETS, (1,) * 4096):
            self.assertIs(is_octets(value), True)

    def test_is_octets_of_any_length(self):
        self.assertIs(is_octets((1,) * 4097), True)
        self.assertIs(is_octets((1,) * 4096 + (256,)), False)

    def test_is_not_octets(self):
        for value in NO_OCTETS:
            self.assertIs(is_octets(value), False, repr(value))

    def test_octet_error(self):
        for value in NO_OCTETS:
            for function in SINGLE:
                with self.assertRaises(OctetError, msg=repr(value)):
                    function(value)
            for function in (xor, same_octets):
                for first, second in ((value, ()), ((), value), (value, (1, 2)),
                                      ((1, 2), value), (value, value)):
                    with self.assertRaises(OctetError, msg=repr((first, second))):
                        function(first, second)

    def test_octet_error_before_length_error(self):
        for function in (xor, same_octets):
            with self.assertRaises(OctetError):
                function((0,) * 4097, [0])
            with self.assertRaises(OctetError):
                function([0], (0,) * 4097)
        for function in SINGLE:
            with self.assertRaises(OctetError):
                function((0,) * 4096 + (256,))

    def test_at_most_4096_octets(self):
        longest = (9,) * 4096
        for function in SINGLE:
            function(longest)
            with self.assertRaises(LengthError):
                function(longest + (9,))
        for function in (xor, same_octets):
            function(longest, longest)
            for first, second in ((longest + (9,), longest + (9,)), ((), longest + (9,)),
                                  (longest + (9,), ())):
                with self.assertRaises(LengthError):
                    function(first, second)


class HexTest(Case):
    def test_to_hex(self):
        self.assertEqual(to_hex(()), "")
        self.assertEqual(to_hex((0, 1, 15, 16, 171, 255)), "00010f10abff")
        for octets in samples():
            self.assertEqual(to_hex(octets), bytes(octets).hex())

    def test_from_hex(self):
        self.assertEqual(from_hex(""), ())
        self.assertEqual(from_hex("00010f10abff"), (0, 1, 15, 16, 171, 255))
        self.assertEqual(from_hex("aBCdEfFA"), (171, 205, 239, 250))
        self.assertEqual(from_hex("ABCDEF"), from_hex("abcdef"))
        for octets in samples():
            self.assertEqual(from_hex(to_hex(octets)), octets)
            self.assertEqual(from_hex(to_hex(octets).upper()), octets)

    def test_a_character_that_is_no_digit(self):
        for text, at in (("g", 0), ("0g", 1), ("00 ", 2), (" 00", 0), ("0x00", 1), ("00-0", 2),
                         ("G0", 0), ("12z4z6", 2), ("00\n", 2), ("@", 0), ("`", 0), ("/", 0),
                         (":", 0), ("\u0661\u0662", 0), ("\uff21\uff21", 0), ("0\xb2", 1)):
            self.refuses_text(from_hex, text, at)

    def test_an_odd_number_of_digits(self):
        for text in ("0", "f", "123", "ABCDE"):
            self.refuses_text(from_hex, text, len(text))

    def test_a_wrong_character_comes_before_the_odd_number(self):
        self.refuses_text(from_hex, "12x", 2)
        self.refuses_text(from_hex, "x12", 0)


class Base64Test(Case):
    def test_examples(self):
        self.assertEqual(to_base64((255, 0)), "/wA")
        self.assertEqual(to_base64(()), "")
        self.assertEqual(to_base64((0,)), "AA")
        self.assertEqual(to_base64((255,)), "/w")
        self.assertEqual(to_base64((255, 255)), "//8")
        self.assertEqual(to_base64((251, 239, 190)), "++++")
        self.assertEqual(from_base64("/wA"), (255, 0))
        self.assertEqual(from_base64(""), ())

    def test_all_groups(self):
        for octets in samples():
            text = base64.b64encode(bytes(octets)).decode("ascii").rstrip("=")
            self.assertEqual(to_base64(octets), text)
            self.assertEqual(from_base64(text), octets)
        for octet in ALL_OCTETS:
            self.assertEqual(from_base64(to_base64((octet,))), (octet,))
            self.assertEqual(from_base64(to_base64((7, octet))), (7, octet))

    def test_a_character_outside_the_alphabet(self):
        for text, at in (("=", 0), ("AA==", 2), ("A A", 1), ("AAAA-", 4), ("_AAA", 0), ("AAA\n", 3),
                         ("\xc5A", 0), ("AA,A", 2), ("AA.A", 2), ("A:", 1), ("@A", 0), ("[A", 0),
                         ("`A", 0), ("{A", 0)):
            self.refuses_text(from_base64, text, at)

    def test_a_single_character_is_left(self):
        for text in ("A", "/", "AAAAA", "AAAAAAAA/"):
            self.refuses_text(from_base64, text, len(text))

    def test_unused_bits(self):
        self.refuses_text(from_base64, "/wB", 2)
        self.refuses_text(from_base64, "/x", 1)
        self.refuses_text(from_base64, "AAAAAB", 5)
        self.refuses_text(from_base64, "AAAAAAB", 6)
        for value in range(64):
            character = base64.b64encode(bytes((value << 2,))).decode("ascii")[0]
            for text, unused in (("A" + character, 15), ("AA" + character, 3)):
                if value & unused:
                    self.refuses_text(from_base64, text, len(text) - 1)
                else:
                    self.assertEqual(to_base64(from_base64(text)), text)

    def test_which_reason_comes_first(self):
        # The character, then the length, then the unused bits.
        self.refuses_text(from_base64, "AAAA=", 4)
        self.refuses_text(from_base64, "=AAAA", 0)
        self.refuses_text(from_base64, "=B", 0)
        self.refuses_text(from_base64, "A=B", 1)
        self.refuses_text(from_base64, "AAAAB", 5)
        self.refuses_text(from_base64, "B", 1)


class AsciiTest(Case):
    def test_codes(self):
        self.assertEqual(from_ascii(""), ())
        self.assertEqual(from_ascii("Az 0~"), (65, 122, 32, 48, 126))
        self.assertEqual(from_ascii("a\tb\n"), (97, 9, 98, 10))
        every = tuple(range(32, 127))
        self.assertEqual(from_ascii("".join(chr(code) for code in every)), every)

    def test_other_characters(self):
        for code in tuple(range(9)) + tuple(range(11, 32)) + (127, 128, 160, 233, 0x20ac, 0x1f600):
            self.refuses_text(from_ascii, chr(code), 0)
            self.refuses_text(from_ascii, "a\n\t" + chr(code) + "b" + chr(code), 3)


class NumberTest(Case):
    def test_examples(self):
        self.assertEqual(big(258, 4), (0, 0, 1, 2))
        self.assertEqual(little(258, 4), (2, 1, 0, 0))
        self.assertEqual(from_big((0, 0, 1, 2)), 258)
        self.assertEqual(from_little((2, 1, 0, 0)), 258)

    def test_no_octets(self):
        self.assertEqual(big(0, 0), ())
        self.assertEqual(little(0, 0), ())
        self.assertEqual(from_big(()), 0)
        self.assertEqual(from_little(()), 0)

    def test_as_python_does(self):
        for octets in samples():
            number = int.from_bytes(bytes(octets), "big")
            self.assertEqual(from_big(octets), number)
            self.assertEqual(big(number, len(octets)), octets)
            self.assertEqual(big(number, len(octets) + 2), (0, 0) + octets)
            number = int.from_bytes(bytes(octets), "little")
            self.assertEqual(from_little(octets), number)
            self.assertEqual(little(number, len(octets)), octets)
            self.assertEqual(little(number, len(octets) + 2), octets + (0, 0))

    def test_a_number_that_just_fits(self):
        for size in (1, 2, 3, 8, 16):
            self.assertEqual(big(256 ** size - 1, size), (255,) * size)
            self.assertEqual(little(256 ** size - 1, size), (255,) * size)
            for function in (big, little):
                with self.assertRaises(LengthError):
                    function(256 ** size, size)

    def test_wrong_numbers_and_sizes(self):
        for number, size in ((1, 0), (0, -1), (5, -1), (-1, 0), (-1, 4), (-256, 4), (-1, -1)):
            for function in (big, little):
                with self.assertRaises(LengthError, msg=repr((number, size))):
                    function(number, size)

    def test_a_size_is_not_limited(self):
        self.assertEqual(big(1, 5000), (0,) * 4999 + (1,))


class PairTest(Case):
    def test_xor(self):
        self.assertEqual(xor((), ()), ())
        self.assertEqual(xor((0, 255, 170, 1), (0, 255, 85, 3)), (0, 0, 255, 2))
        for octets in samples():
            self.assertEqual(xor(octets, octets), (0,) * len(octets))
            self.assertEqual(xor(octets, (255,) * len(octets)),
                             tuple(255 - octet for octet in octets))

    def test_xor_of_different_lengths(self):
        for first, second in (((), (0,)), ((0,), ()), ((1, 2), (1, 2, 3)), ((0,) * 4096, ())):
            with self.assertRaises(LengthError):
                xor(first, second)

    def test_same_octets(self):
        for octets in samples():
            self.assertIs(same_octets(octets, tuple(list(octets))), True)

    def test_different_lengths(self):
        for first, second in (((), (0,)), ((0,), ()), ((1, 2), (1, 2, 0)), ((0, 1, 2), (1, 2)),
                              ((0,) * 4096, (0,) * 4095)):
            self.assertIs(same_octets(first, second), False)

    def test_one_bit_is_enough(self):
        for at in range(5):
            for bit in range(8):
                other = [1, 2, 3, 4, 5]
                other[at] ^= 1 << bit
                self.assertIs(same_octets((1, 2, 3, 4, 5), tuple(other)), False)

    def test_differences_do_not_cancel(self):
        self.assertIs(same_octets((1, 1), (0, 0)), False)
        self.assertIs(same_octets((1, 2), (2, 1)), False)
        self.assertIs(same_octets((255, 1), (0, 1)), False)
        self.assertIs(same_octets((1, 255), (1, 0)), False)

    def test_all_octets_are_combined(self):
        # Octets that note how often they are combined: as often for any place of difference.
        class Noted(int):
            combined = 0

            def __xor__(self, other):
                Noted.combined += 1
                return int(self) ^ int(other)

            __rxor__ = __xor__

        counts = []
        for at in range(6):
            Noted.combined = 0
            octets = tuple(Noted(9) for _ in range(6))
            self.assertIs(same_octets(octets, tuple(8 if at == k else 9 for k in range(6))), False)
            counts.append(Noted.combined)
        self.assertEqual(counts, [6] * 6)

    def test_arguments_stay(self):
        first, second = (1, 2, 3), (4, 5, 6)
        xor(first, second)
        same_octets(first, second)
        self.assertEqual((first, second), ((1, 2, 3), (4, 5, 6)))


if __name__ == "__main__":
    unittest.main()
