"""Policies for password records, and keys that are derived from them."""

import hashlib
import itertools
import unittest

from saltmill.errors import CostError, LengthError, OctetError, RecordError
from saltmill.expansion import hkdf_expand
from saltmill.octets import from_ascii
from saltmill.records import check_password, is_weaker, make_record, parse_record, renew, sub_key, write_record
from tests.common import NO_OCTETS, TOO_LONG, WRONG_OCTETS, CommonTest, message
from tests.test_records import PASSWORD, SALT, SMALL_COSTS, TAG, expected_tag, wrong_costs

OTHER = (119, 114, 111, 110, 103)
NEW_SALT = message(12, 4)
# A record with a salt of 9 octets and a tag of 20.
POLICY = ("pbkdf2-sha1", (3,), 9, 20)
WRONG_SALT_SIZES = (0, -1, 7, 65, 10 ** 30)
WRONG_TAG_SIZES = (0, -1, 15, 65, 10 ** 30)
NO_RECORDS = (None, 5, "", "x", "$pbkdf2-sha1$c=3$", write_record(("pbkdf2-sha1", (3,), SALT, TAG)) + "!")


def record(scheme="pbkdf2-sha1", costs=None, salt=SALT, size=20):
    return make_record(scheme, SMALL_COSTS[scheme] if costs is None else costs, salt, size, PASSWORD)


def wrong_policies():
    """Pairs of a policy that is wrong and its error."""
    for scheme, costs in wrong_costs():
        yield (scheme, costs, 9, 20), CostError
        # The costs come before the sizes.
        yield (scheme, costs, 0, 0), CostError
    for scheme, costs in SMALL_COSTS.items():
        for salt_size in WRONG_SALT_SIZES:
            yield (scheme, costs, salt_size, 20), LengthError
        for tag_size in WRONG_TAG_SIZES:
            yield (scheme, costs, 9, tag_size), LengthError


class WeakerTest(CommonTest):
    def test_the_same(self):
        for scheme, costs in SMALL_COSTS.items():
            text = write_record((scheme, costs, SALT, TAG))
            self.assertIs(is_weaker(text, (scheme, costs, 9, 20)), False)
            self.assertIs(is_weaker(text, (scheme, costs, 8, 16)), False)

    def test_another_scheme(self):
        for one, other in itertools.permutations(SMALL_COSTS, 2):
            text = write_record((one, SMALL_COSTS[one], message(64), message(64)))
            self.assertIs(is_weaker(text, (other, SMALL_COSTS[other], 8, 16)), True)

    def test_sizes(self):
        for scheme, costs in SMALL_COSTS.items():
            text = write_record((scheme, costs, SALT, TAG))
            for salt_size, tag_size in itertools.product((8, 9, 10, 64), (16, 20, 21, 64)):
                self.assertIs(is_weaker(text, (scheme, costs, salt_size, tag_size)), salt_size > 9 or tag_size > 20)

    def test_each_cost(self):
        for scheme, costs in (("pbkdf2-sha1", (5,)), ("scrypt", (16, 4, 4)), ("argon2d", (256, 4, 4)),
                              ("argon2i", (256, 4, 4)), ("argon2id", (256, 4, 4))):
            text = write_record((scheme, costs, SALT, TAG))
            for place in range(len(costs)):
                less = costs[:place] + (costs[place] // 2,) + costs[place + 1:]
                more = costs[:place] + (costs[place] * 2,) + costs[place + 1:]
                self.assertIs(is_weaker(text, (scheme, less, 9, 20)), False)
                self.assertIs(is_weaker(text, (scheme, more, 9, 20)), True)
                # One cost is greater and another one is less.
                for other in range(len(costs)):
                    if other != place:
                        both = more[:other] + (more[other] // 2,) + more[other + 1:]
                        self.assertIs(is_weaker(text, (scheme, both, 9, 20)), True)

    def test_wrong_policies_come_first(self):
        for policy, error in wrong_policies():
            for text in (record(), "x", None):
                with self.assertRaises(error, msg=repr(policy)):
                    is_weaker(text, policy)

    def test_wrong_records(self):
        for text in NO_RECORDS:
            with self.assertRaises(RecordError) as caught:
                is_weaker(text, POLICY)
            with self.assertRaises(RecordError) as parsed:
                parse_record(text)
            self.assertEqual(caught.exception.at, parsed.exception.at)


class RenewTest(CommonTest):
    def renewed(self, text, policy, costs):
        """The record is renewed with these costs."""
        made = renew(text, PASSWORD, policy, NEW_SALT)
        scheme, _, _, size = policy
        self.assertEqual(made, make_record(scheme, costs, NEW_SALT, size, PASSWORD))
        self.assertEqual(parse_record(made)[3], expected_tag(scheme, costs, NEW_SALT, size, PASSWORD))
        self.assertTrue(check_password(made, PASSWORD))
        self.assertFalse(is_weaker(made, policy))

    def test_a_wrong_password(self):
        for scheme, costs in SMALL_COSTS.items():
            for policy in ((scheme, costs, 8, 16), ("argon2id", (24, 1, 3), 10, 40)):
                self.assertIsNone(renew(record(scheme), OTHER, policy, NEW_SALT))

    def test_nothing_to_do(self):
        for scheme, costs in SMALL_COSTS.items():
            for policy in ((scheme, costs, 8, 16), (scheme, costs, 9, 20)):
                text = record(scheme)
                self.assertEqual(renew(text, PASSWORD, policy, NEW_SALT), text)
        # Greater costs, a longer salt and a longer tag stay as well.
        text = record("argon2d", (32, 3, 2), message(30), 60)
        self.assertEqual(renew(text, PASSWORD, ("argon2d", (16, 1, 1), 8, 16), NEW_SALT), text)

    def test_another_scheme(self):
        for one, other in itertools.permutations(SMALL_COSTS, 2):
            # Of another scheme no cost is taken over, however great it is.
            self.renewed(record(one), (other, SMALL_COSTS[other], 8, 17), SMALL_COSTS[other])
        self.renewed(record("argon2d", (64, 3, 4)), ("argon2i", (16, 1, 1), 8, 16), (16, 1, 1))
        self.renewed(record("pbkdf2-sha1", (50,)), ("pbkdf2-sha256", (2,), 8, 16), (2,))

    def test_a_short_salt_or_tag(self):
        for scheme, costs in SMALL_COSTS.items():
            self.renewed(record(scheme), (scheme, costs, 10, 20), costs)
            self.renewed(record(scheme), (scheme, costs, 8, 21), costs)
        # The tag has the policy's size, also where the old one was longer.
        self.renewed(record("scrypt", size=64), ("scrypt", SMALL_COSTS["scrypt"], 12, 16), SMALL_COSTS["scrypt"])

    def test_costs(self):
        self.renewed(record(costs=(3,)), ("pbkdf2-sha1", (4,), 8, 16), (4,))
        self.renewed(record(costs=(9,)), ("pbkdf2-sha1", (4,), 10, 16), (9,))
        self.renewed(record("scrypt", (4, 2, 1)), ("scrypt", (2, 3, 1), 8, 16), (4, 3, 1))
        self.renewed(record("scrypt", (2, 1, 3)), ("scrypt", (8, 2, 1), 8, 16), (8, 2, 3))
        self.renewed(record("argon2id", (16, 3, 1)), ("argon2id", (24, 1, 2), 8, 16), (24, 3, 2))
        self.renewed(record("argon2id", (40, 1, 4)), ("argon2id", (16, 2, 1), 8, 16), (40, 2, 4))

    def test_costs_that_are_right_together(self):
        self.renewed(record("argon2d", (64, 1, 8)), ("argon2d", (70, 2, 1), 8, 16), (70, 2, 8))
        self.renewed(record("scrypt", (2, 8, 1)), ("scrypt", (64, 1, 2), 8, 16), (64, 8, 2))

    def test_costs_that_are_not_right_together(self):
        # The record's n and the policy's r are too great together, so that the policy's costs are used.
        costs = (16384, 1, 2)
        if hasattr(hashlib, "scrypt"):
            tag = tuple(hashlib.scrypt(bytes(PASSWORD), salt=bytes(SALT), n=16384, r=1, p=2, dklen=20))
        else:
            tag = expected_tag("scrypt", costs, SALT, 20, PASSWORD)
        self.renewed(write_record(("scrypt", costs, SALT, tag)), ("scrypt", (2, 8, 1), 8, 16), (2, 8, 1))

    def test_wrong_policies_come_first(self):
        for policy, error in wrong_policies():
            for text, password, salt in ((record(), PASSWORD, NEW_SALT), ("x", PASSWORD, NEW_SALT), (record(), None, None)):
                with self.assertRaises(error):
                    renew(text, password, policy, salt)

    def test_the_order_of_errors(self):
        policies = tuple((value, error) for value, error in wrong_policies())[::9]
        texts = tuple((value, RecordError) for value in NO_RECORDS)
        salts = WRONG_OCTETS + tuple((message(length), LengthError) for length in (0, 8, 65, 100))
        self.raises_in_order(lambda policy, text, password, salt: renew(text, password, policy, salt),
                             (POLICY, record(), PASSWORD, NEW_SALT), (policies, texts, WRONG_OCTETS, salts))

    def test_wrong_salts(self):
        # They are refused also if no new record is needed, or the password is not right.
        for text in (record(), record(costs=(1,))):
            for password in (PASSWORD, OTHER):
                for salt_size in (9, 64):
                    policy = ("pbkdf2-sha1", (3,), salt_size, 16)
                    for salt in (message(salt_size - 1), message(65), (), TOO_LONG):
                        with self.assertRaises(LengthError):
                            renew(text, password, policy, salt)
                    with self.assertRaises(OctetError):
                        renew(text, password, policy, list(NEW_SALT))
        for length in (9, 64):
            made = renew(record(costs=(1,)), PASSWORD, POLICY, message(length))
            self.assertEqual(parse_record(made)[2], message(length))


class SubKeyTest(CommonTest):
    def test_every_scheme(self):
        for scheme, costs in SMALL_COSTS.items():
            main = expected_tag(scheme, costs, SALT + from_ascii("sub"), 32, PASSWORD)
            for label, size in (((), 1), ((1,), 32), (message(255), 100)):
                made = sub_key(record(scheme), PASSWORD, label, size)
                self.assertIsInstance(made, tuple)
                self.assertEqual(made, hkdf_expand("sha256", main, label, size))

    def test_sizes(self):
        main = expected_tag("pbkdf2-sha1", (3,), SALT + (115, 117, 98), 32, PASSWORD)
        for size in (1, 31, 32, 33, 4095, 4096):
            self.assertEqual(sub_key(record(), PASSWORD, (7,), size), hkdf_expand("sha256", main, (7,), size))

    def test_the_tag_does_not_matter(self):
        keys = {sub_key(record(size=size), PASSWORD, (7,), 40) for size in (16, 20, 32, 64)}
        self.assertEqual(len(keys), 1)

    def test_keys_of_their_own(self):
        keys = {sub_key(text, PASSWORD, label, 32) for text in (record(), record(salt=message(10)), record("scrypt"))
                for label in ((), (1,), (1, 0), (2,))}
        self.assertEqual(len(keys), 12)
        for size in (16, 32):
            text = record(salt=message(64), size=size)
            self.assertNotEqual(sub_key(text, PASSWORD, (), size), parse_record(text)[3])
        self.assertEqual(len(sub_key(text, PASSWORD, (), 32)), 32)

    def test_a_wrong_password(self):
        for scheme in SMALL_COSTS:
            self.assertIsNone(sub_key(record(scheme), OTHER, (1,), 32))

    def test_the_order_of_errors(self):
        sizes = tuple((size, LengthError) for size in (0, -1, 4097, 10 ** 30))
        labels = tuple((value, OctetError) for value in NO_OCTETS)
        labels += tuple((message(length), LengthError) for length in (256, 4096, 5000))
        texts = tuple((value, RecordError) for value in NO_RECORDS)
        self.raises_in_order(lambda size, label, text, password: sub_key(text, password, label, size),
                             (32, (1,), record(), PASSWORD), (sizes, labels, texts, WRONG_OCTETS))


if __name__ == "__main__":
    unittest.main()
