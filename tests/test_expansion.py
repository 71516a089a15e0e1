"""The derivations as plain functions."""

import unittest

from saltmill.codes import hmac
from saltmill.errors import LengthError
from saltmill.expansion import (counter_kdf, expand_label, feedback_kdf, hkdf_expand, hkdf_extract,
                                one_step_kdf, pipeline_kdf)
from tests.common import (NAMES, NO_OCTETS, SIZES, WRONG_NAMES, WRONG_OCTETS, WRONG_SIZES, CommonTest,
                          message, octets_of, octets_of_hex)
from tests.derivations import SCHEMES, STRINGS, edge_sizes, expected

FUNCTIONS = {"hkdf": hkdf_expand, "counter": counter_kdf, "feedback": feedback_kdf,
             "pipeline": pipeline_kdf, "one_step": one_step_kdf, "label": expand_label}
LENGTHS = (0, 1, 63, 64, 65, 127, 128, 129, 200)
WRONG_LABELS = WRONG_OCTETS + tuple(((0,) * size, LengthError) for size in (250, 251, 255, 256, 4096))
WRONG_CONTEXTS = WRONG_OCTETS + tuple(((0,) * size, LengthError) for size in (256, 257, 512, 4096))


class ExtractTest(CommonTest):
    def test_it_is_a_tag(self):
        for name in NAMES:
            for salt in ((), (1,), message(64), message(129), message(4096)):
                for material in ((), (2,), message(200), message(4096)):
                    made = hkdf_extract(name, salt, material)
                    self.assertEqual(made, hmac(name, salt, material))
                    self.assertEqual(len(made), SIZES[name])

    def test_an_empty_salt_stands_for_zeros(self):
        for name in NAMES:
            made = hkdf_extract(name, (), (1, 2))
            self.assertEqual(made, hkdf_extract(name, (0,) * SIZES[name], (1, 2)))
            self.assertIsInstance(made, tuple)

    def test_wrong_arguments(self):
        self.raises_in_order(hkdf_extract, ("sha1", (1,), (2,)), (WRONG_NAMES, WRONG_OCTETS, WRONG_OCTETS))


class KnownAnswersTest(CommonTest):
    def check_hkdf(self, name, material, salt, info, key, output):
        made = hkdf_extract(name, salt, material)
        self.assertEqual(made, octets_of_hex(key))
        output = octets_of_hex(output)
        self.assertEqual(hkdf_expand(name, made, info, len(output)), output)

    def test_rfc_5869_sha256(self):
        self.check_hkdf("sha256", (11,) * 22, tuple(range(13)), tuple(range(0xf0, 0xfa)),
                        "077709362c2e32df0ddc3f0dc47bba6390b6c73bb50f9c3122ec844ad7c2b3e5",
                        "3cb25f25faacd57a90434f64d0362f2a2d2d0a90cf1a5a4c5db02d56ecc4c5bf34007208d5b887185865")
        self.check_hkdf("sha256", (11,) * 22, (), (),
                        "19ef24a32c717b167f33a91d6f648bdf96596776afdb6377ac434c1c293ccb04",
                        "8da4e775a563c18f715f802a063c5a31b8a11f5c5ee1879ec3454e5f3c738d2d9d201395faa4b61a96c8")

    def test_rfc_5869_long_inputs(self):
        self.check_hkdf("sha256", tuple(range(80)), tuple(range(0x60, 0xb0)), tuple(range(0xb0, 0x100)),
                        "06a6b88c5853361a06104c9ceb35b45cef760014904671014a193f40c15fc244",
                        "b11e398dc80327a1c8e7f78c596a49344f012eda2d4efad8a050cc4c19afa97c"
                        "59045a99cac7827271cb41c65e590e09da3275600c2f09b8367793a9aca3db71"
                        "cc30c58179ec3e87c14c01d5c1f3434f1d87")

    def test_rfc_5869_sha1(self):
        self.check_hkdf("sha1", (11,) * 11, tuple(range(13)), tuple(range(0xf0, 0xfa)),
                        "9b6c18c432a7bf8f0e71c8eb88f4b30baa2ba243",
                        "085a01ea1b10f36933068b56efa5ad81a4f14b822f5b091568a9cdd4f155fda2c22e422478d305f3f896")

    def test_rfc_8448_a_derived_secret(self):
        early = hkdf_extract("sha256", (), (0,) * 32)
        self.assertEqual(early, octets_of_hex(
            "33ad0a1c607ec03b09e6cd9893680ce210adf300aa1f2660e1b22e10f170f92a"))
        # The context is the digest of the empty message.
        context = octets_of_hex("e3b0c44298fc1c149afbf4c8996fb92427ae41e4649b934ca495991b7852b855")
        self.assertEqual(expand_label("sha256", early, octets_of("derived"), context, 32), octets_of_hex(
            "6f2615a108c702c5678f54fc9dbab69716c076189c48250cebeac3576c3611ba"))

    def test_rfc_9001_keys(self):
        salt = octets_of_hex("38762cf7f55934b34d179ae6a4c80cadccbb7f0a")
        initial = hkdf_extract("sha256", salt, octets_of_hex("8394c8f03e515708"))
        client = expand_label("sha256", initial, octets_of("client in"), (), 32)
        self.assertEqual(client, octets_of_hex(
            "c00cf151ca5be075ed0ebfb5c80323c42d6b7db67881289af4008f1f6c357aea"))
        self.assertEqual(expand_label("sha256", client, octets_of("quic key"), (), 16),
                         octets_of_hex("1f369613dd76d5467730efcbe3b1a22d"))
        self.assertEqual(expand_label("sha256", client, octets_of("quic iv"), (), 12),
                         octets_of_hex("fa044b2f42a3fd3b46fb255c"))


class PlainTest(CommonTest):
    def check(self, scheme, name, *arguments):
        made = FUNCTIONS[scheme](name, *arguments)
        self.assertIsInstance(made, tuple)
        self.assertEqual(made, expected(scheme, name, *arguments), (scheme, name, arguments[-1]))

    def test_sizes(self):
        for scheme in SCHEMES:
            for name in NAMES:
                for size in edge_sizes(name):
                    self.check(scheme, name, *STRINGS[scheme], size)

    def test_the_greatest_size(self):
        for scheme in SCHEMES:
            for name in NAMES:
                for size in (4095, 4096):
                    self.check(scheme, name, *STRINGS[scheme], size)

    def test_lengths_of_each_string(self):
        for scheme in SCHEMES:
            for name in NAMES:
                for place in range(len(STRINGS[scheme])):
                    for length in LENGTHS:
                        strings = list(STRINGS[scheme])
                        strings[place] = message(length)
                        self.check(scheme, name, *strings, 2 * SIZES[name] + 1)

    def test_empty_strings(self):
        for scheme in SCHEMES:
            for name in NAMES:
                self.check(scheme, name, *[() for _ in STRINGS[scheme]], 3 * SIZES[name])

    def test_the_longest_strings(self):
        for scheme in SCHEMES:
            for name in ("sha1", "sha512"):
                strings = [message(4096, place) for place in range(len(STRINGS[scheme]))]
                if scheme == "label":
                    strings[1:] = [message(249), message(255)]
                self.check(scheme, name, *strings, 2 * SIZES[name] + 1)

    def test_labels_and_contexts(self):
        for name in NAMES:
            for length in (0, 1, 12, 248, 249):
                self.check("label", name, (1,), message(length), (2,), 40)
            for length in (0, 1, 32, 254, 255):
                self.check("label", name, (1,), (2,), message(length), 40)

    def test_the_size_is_a_part_of_some(self):
        for scheme in SCHEMES:
            function = FUNCTIONS[scheme]
            beginning = function("sha1", *STRINGS[scheme], 50)[:20]
            same = function("sha1", *STRINGS[scheme], 20) == beginning
            self.assertEqual(same, scheme in ("hkdf", "one_step"), scheme)

    def test_the_limit_does_not_join_strings(self):
        # Label and context have their limits each, and together they may be longer.
        for scheme in ("counter", "feedback", "pipeline"):
            strings = STRINGS[scheme][:-2] + (message(4000), message(3000))
            self.check(scheme, "sha256", *strings, 40)


class WrongArgumentsTest(CommonTest):
    def test_each_and_two_at_once(self):
        for scheme in SCHEMES:
            if scheme != "label":
                strings = STRINGS[scheme]
                wrong = (WRONG_NAMES,) + (WRONG_OCTETS,) * len(strings) + (WRONG_SIZES,)
                self.raises_in_order(FUNCTIONS[scheme], ("sha1", *strings, 30), wrong)

    def test_labels(self):
        self.raises_in_order(expand_label, ("sha1", (1,), (2,), (3,), 30),
                             (WRONG_NAMES, WRONG_OCTETS, WRONG_LABELS, WRONG_CONTEXTS, WRONG_SIZES))

    def test_labels_and_contexts_of_other_derivations_may_be_longer(self):
        for scheme in ("counter", "feedback", "pipeline"):
            for length in (250, 256, 4096):
                strings = STRINGS[scheme][:-2]
                self.assertEqual(len(FUNCTIONS[scheme]("sha1", *strings, (0,) * length, (), 1)), 1)
                self.assertEqual(len(FUNCTIONS[scheme]("sha1", *strings, (), (0,) * length, 1)), 1)

    def test_each_name_and_each_value(self):
        for scheme in SCHEMES:
            for name in NAMES:
                for place in range(len(STRINGS[scheme])):
                    for value in NO_OCTETS[:3]:
                        strings = list(STRINGS[scheme])
                        strings[place] = value
                        with self.assertRaises(ValueError):
                            FUNCTIONS[scheme](name, *strings, 5)
                for size in (0, 4097):
                    with self.assertRaises(LengthError):
                        FUNCTIONS[scheme](name, *STRINGS[scheme], size)


if __name__ == "__main__":
    unittest.main()
