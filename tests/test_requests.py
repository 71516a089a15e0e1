"""The requests of jobs: which are valid, what they cost, and what the plain functions make of them."""

import hashlib
import hmac
import itertools
import unittest

from saltmill.errors import ChoiceError, CostError, LengthError, OctetError
from saltmill.expansion import (counter_kdf, feedback_kdf, hkdf_expand, hkdf_extract, one_step_kdf,
                                pipeline_kdf)
from saltmill.filling import argon2
from saltmill.jobs import Job, check_request, cost, derive, follow, held, input_lengths
from saltmill.mixing import scrypt
from saltmill.stretching import pbkdf2
from tests import derivations, second_argon2, second_scrypt
from tests.common import NAMES, NO_NAMES, NO_OCTETS, CommonTest, message
from tests.sample_requests import (EDGES, EMPTY, LONG, ORDINARY, SHAPES, every_name, expected_cost, expected_held,
                                   inputs_for, lengths)

CHECKS = (check_request, input_lengths, cost, held, Job, lambda request: derive(request, inputs_for_any(request)),
          lambda request: follow(request, (), ()))
NO_INTEGERS = (None, "5", 5.0, True, False, (5,), [], b"5")
NO_LENGTHS = (-1, -4096, 4097, 10 ** 30) + NO_INTEGERS
NO_SIZES = (0, -1, 4097, 10 ** 30) + NO_INTEGERS
NO_TAG_SIZES = (0, 3, -1, 513, 4096, 10 ** 30) + NO_INTEGERS
NO_ROUNDS = (0, -1, 1000001, 10 ** 30) + NO_INTEGERS
NO_N = (0, 1, 3, 6, -2, -4, 65535, 131072, 10 ** 30) + NO_INTEGERS
NO_SMALL = (0, -1, 9, 10 ** 30) + NO_INTEGERS
NO_GAPS = (0, -1, 5, 8, 65536, 10 ** 30) + NO_INTEGERS
NO_MEMORY = (4097, 10 ** 30) + NO_INTEGERS
NO_PASSES = (0, -1, 17, 10 ** 30) + NO_INTEGERS
COSTS = {"pbkdf2": (NO_ROUNDS,), "scrypt": (NO_N, NO_SMALL, NO_SMALL, NO_GAPS),
         "argon2": (NO_MEMORY, NO_PASSES, NO_SMALL)}


def inputs_for_any(request):
    """Inputs of no request at all, so that the errors of the request must come first."""
    return [request]


def wrong_parts(request):
    """For each part behind the scheme that is a number: its place, wrong values and their error."""
    costs = list(COSTS.get(request[0], ()))
    for place, shape in enumerate(SHAPES[request[0]], 1):
        if shape == "c":
            yield place, costs.pop(0), CostError
        elif shape == "l":
            yield place, NO_LENGTHS, LengthError
        elif shape == "s":
            yield place, NO_TAG_SIZES if request[0] == "argon2" else NO_SIZES, LengthError


def put(request, place, value):
    return request[:place] + (value,) + request[place + 1:]


class ValidTest(CommonTest):
    def refused(self, request, error):
        for check in CHECKS:
            with self.assertRaises(error, msg=repr(request)[:200]) as caught:
                check(request)
            self.assertIs(caught.exception.__class__, error)

    def test_right_ones(self):
        for request in ORDINARY + EMPTY + LONG + EDGES + tuple(every_name()):
            self.assertIsNone(check_request(request))

    def test_just_inside_and_just_outside(self):
        for request, right, wrong, error in (
                (ORDINARY[0], (2, (0, 4096)), (2, (-1, 4097)), LengthError),
                (ORDINARY[0], (3, (0, 4096)), (3, (-1, 4097)), LengthError),
                (ORDINARY[0], (4, (0, 4096)), (4, (-1, 4097)), LengthError),
                (ORDINARY[0], (5, (1, 4096)), (5, (0, 4097)), LengthError),
                (ORDINARY[1], (5, (1, 4096)), (5, (0, 4097)), LengthError),
                (ORDINARY[2], (6, (1, 4096)), (6, (0, 4097)), LengthError),
                (ORDINARY[3], (5, (1, 4096)), (5, (0, 4097)), LengthError),
                (ORDINARY[4], (4, (1, 4096)), (4, (0, 4097)), LengthError),
                (ORDINARY[5], (2, (1, 1000000)), (2, (0, 1000001)), CostError),
                (ORDINARY[5], (5, (1, 4096)), (5, (0, 4097)), LengthError),
                (ORDINARY[6], (1, (4, 8, 16, 65536)), (1, (2, 5, 131072)), CostError),
                (ORDINARY[6], (2, (1, 8)), (2, (0, 9)), CostError),
                (ORDINARY[6], (3, (1, 8)), (3, (0, 9)), CostError),
                (ORDINARY[6], (4, (1, 4)), (4, (0, 5)), CostError),
                (ORDINARY[6], (7, (1, 4096)), (7, (0, 4097)), LengthError),
                (ORDINARY[7], (2, (16, 4096)), (2, (15, 4097)), CostError),
                (ORDINARY[7], (3, (1, 16)), (3, (0, 17)), CostError),
                (ORDINARY[7], (4, (1, 2)), (4, (0, 3, 9)), CostError),
                (ORDINARY[7], (9, (4, 512)), (9, (3, 513)), LengthError)):
            for value in right[1]:
                self.assertIsNone(check_request(put(request, right[0], value)))
            for value in wrong[1]:
                self.refused(put(request, wrong[0], value), error)

    def test_no_requests(self):
        for value in (None, 5, "hkdf", [], list(ORDINARY[0]), {}, (), (None,), (5,), ("",), ("hkdf",), ("hkdf", "sha1"),
                      (("hkdf", "sha1"),), (["hkdf"], 1), (b"hkdf", "sha1", 1, 2, 3, 4)):
            self.refused(value, ChoiceError)

    def test_unknown_words(self):
        for request in ORDINARY:
            for scheme in ("", "HKDF", request[0] + " ", request[0][:-1], "label", "sha1", None, 5, [], ()):
                self.refused((scheme,) + request[1:], ChoiceError)
            if SHAPES[request[0]][0] == "w":
                names = NO_NAMES if request[0] != "argon2" else ("", "D", "ii", "argon2id", "sha1", "ID")
                for name in names + (None, 5, True, [], (), {}, b"sha1"):
                    self.refused(put(request, 1, name), ChoiceError)
                    # The name comes before the numbers.
                    for place, wrong, _ in wrong_parts(request):
                        self.refused(put(put(request, 1, name), place, wrong[0]), ChoiceError)

    def test_another_number_of_parts(self):
        for request in ORDINARY:
            for other in [request[:many] for many in range(1, len(request))] + [request + (5,), request + (5, 6)]:
                self.refused(other, ChoiceError)
                # The number of the parts comes before the numbers.
                self.refused(other[:-1] + (-1,), ChoiceError)

    def test_one_wrong_number(self):
        for request in ORDINARY:
            for place, wrong, error in wrong_parts(request):
                for value in wrong:
                    self.refused(put(request, place, value), error)

    def test_two_wrong_numbers(self):
        for request in ORDINARY:
            for (first, one, error), (second, other, _) in itertools.combinations(wrong_parts(request), 2):
                for value, later in itertools.product((one[0], one[-1]), (other[0], other[-1])):
                    self.refused(put(put(request, first, value), second, later), error)

    def test_costs_together_come_last(self):
        for n, r in ((65536, 2), (16384, 8), (32768, 3)):
            request = ("scrypt", n, r, 1, 1, 5, 6, 40)
            self.refused(request, CostError)
            for place in (5, 6, 7):
                self.refused(put(request, place, -1), LengthError)
        for n, r in ((65536, 1), (32768, 2), (8192, 8)):
            self.assertIsNone(check_request(("scrypt", n, r, 8, n, 5, 6, 40)))
        for memory, lanes in ((7, 1), (15, 2), (63, 8), (0, 1), (-1, 1), (-10 ** 30, 8)):
            request = ("argon2", "d", memory, 1, lanes, 3, 8, 2, 1, 33)
            self.refused(request, CostError)
            for place in (5, 6, 7, 8, 9):
                self.refused(put(request, place, -1), LengthError)
        for memory, lanes in ((8, 1), (16, 2), (64, 8), (4096, 8)):
            self.assertIsNone(check_request(("argon2", "d", memory, 1, lanes, 3, 8, 2, 1, 33)))


class NumbersTest(CommonTest):
    def test_lengths(self):
        for request in ORDINARY + EMPTY + LONG + EDGES:
            self.assertEqual(input_lengths(request), lengths(request))
            self.assertIsInstance(input_lengths(request), tuple)
        self.assertEqual(input_lengths(("hkdf", "sha256", 5, 9, 4, 70)), (5, 9, 4))
        self.assertEqual(input_lengths(("scrypt", 4, 1, 2, 3, 5, 6, 40)), (5, 6))
        self.assertEqual(input_lengths(("argon2", "id", 17, 2, 2, 3, 8, 2, 1, 33)), (3, 8, 2, 1))

    def test_costs(self):
        for request in ORDINARY + EMPTY + LONG + EDGES + tuple(every_name()):
            self.assertEqual(cost(request), expected_cost(request), request)
        for request, steps in ((("pbkdf2", "sha1", 3, 4, 8, 50), 9), (("pbkdf2", "sha1", 1000000, 0, 0, 4096), 205000000),
                               (("hkdf", "sha256", 5, 9, 4, 64), 2), (("hkdf", "sha256", 5, 9, 4, 65), 3),
                               (("scrypt", 4, 1, 2, 3, 5, 6, 40), 8 + 2 * 16 + 2),
                               (("scrypt", 65536, 1, 8, 65536, 5, 6, 4096), 32 + 8 * (65536 + 65536 ** 2) + 128),
                               (("scrypt", 2, 8, 8, 2, 0, 0, 1), 256 + 8 * 6 + 1),
                               (("argon2", "id", 17, 2, 2, 3, 8, 2, 1, 33), 2 * 2 * 8),
                               (("argon2", "d", 4096, 16, 8, 0, 0, 0, 0, 4), 16 * 4096)):
            self.assertEqual(cost(request), steps)

    def test_sizes_and_costs(self):
        for name in NAMES:
            for size in derivations.edge_sizes(name):
                for scheme in ("hkdf", "counter", "pipeline"):
                    request = (scheme, name, 3, 4, 5, size)
                    self.assertEqual(cost(request), expected_cost(request))
                self.assertEqual(cost(("one_step", name, 3, 4, size)), -(-size // derivations.SIZES[name]))
                self.assertEqual(cost(("pbkdf2", name, 7, 3, 4, size)), 7 * -(-size // derivations.SIZES[name]))

    def test_held(self):
        for request in ORDINARY + EMPTY + LONG + EDGES + tuple(every_name()):
            self.assertEqual(held(request), expected_held(request), request)
        for request, most in (
                (("hkdf", "sha1", 100, 200, 7, 30), 64 + 20 + 128 + 80 + 7 + 30),
                (("counter", "sha512", 100, 2, 3, 30), 64 + 32 + 256 + 256 + 5 + 30),
                (("feedback", "sha256", 100, 1, 2, 3, 30), 64 + 32 + 128 + 128 + 6 + 30),
                (("pipeline", "sha384", 100, 2, 3, 30), 64 + 32 + 256 + 192 + 5 + 30),
                (("one_step", "sha224", 100, 3, 30), 64 + 32 + 128 + 112 + 103 + 30),
                (("pbkdf2", "sha1", 5, 100, 9, 30), 64 + 20 + 128 + 80 + 9 + 30),
                (("scrypt", 8, 2, 3, 3, 100, 9, 30), 64 + 32 + 128 + 128 + 9 + 30 + 64 * 5 + 768),
                (("argon2", "i", 27, 2, 3, 9, 9, 9, 9, 30), 64 + 32 + 256 + 256 + 30 + 3 + 128 * 24)):
            self.assertEqual(held(request), most)


def second_derive(request, inputs):
    """What the document demands, with Python's own digests and second writings."""
    scheme, name, size = request[0], request[1], request[-1]
    if scheme == "hkdf":
        salt, material, info = inputs
        key = hmac.new(bytes(salt), bytes(material), name).digest()
        return derivations.expected("hkdf", name, key, info, size)
    if scheme == "pbkdf2":
        password, salt = inputs
        return tuple(hashlib.pbkdf2_hmac(name, bytes(password), bytes(salt), request[2], size))
    if scheme == "scrypt":
        return second_scrypt.scrypt(*inputs, *request[1:4], size)
    if scheme == "argon2":
        return second_argon2.argon2(name, *inputs, *request[2:5], size)
    return derivations.expected(scheme, name, *inputs, size)


class DeriveTest(CommonTest):
    def test_against_second_writings(self):
        for request in ORDINARY + EMPTY + LONG + EDGES + tuple(every_name()):
            inputs = inputs_for(request)
            made = derive(request, inputs)
            self.assertIsInstance(made, tuple)
            self.assertEqual(made, second_derive(request, inputs), request)

    def test_against_the_plain_functions(self):
        one, two, three, four = message(5), message(9, 1), message(4, 2), message(3, 3)
        for request, inputs, expected in (
                (("hkdf", "sha1", 5, 9, 4, 50), (one, two, three),
                 hkdf_expand("sha1", hkdf_extract("sha1", one, two), three, 50)),
                (("counter", "sha1", 5, 9, 4, 50), (one, two, three), counter_kdf("sha1", one, two, three, 50)),
                (("feedback", "sha1", 5, 9, 4, 3, 50), (one, two, three, four),
                 feedback_kdf("sha1", one, two, three, four, 50)),
                (("pipeline", "sha1", 5, 9, 4, 50), (one, two, three), pipeline_kdf("sha1", one, two, three, 50)),
                (("one_step", "sha1", 5, 9, 50), (one, two), one_step_kdf("sha1", one, two, 50)),
                (("pbkdf2", "sha1", 3, 5, 9, 50), (one, two), pbkdf2("sha1", one, two, 3, 50)),
                (("scrypt", 4, 2, 3, 2, 5, 9, 50), (one, two), scrypt(one, two, 4, 2, 3, 50)),
                (("argon2", "i", 18, 1, 2, 5, 9, 4, 3, 50), (one, two, three, four),
                 argon2("i", one, two, three, four, 18, 1, 2, 50))):
            self.assertEqual(derive(request, inputs), expected)

    def test_the_gap_does_not_matter(self):
        made = {derive(("scrypt", 8, 1, 1, gap, 3, 4, 40), (message(3), message(4))) for gap in range(1, 9)}
        self.assertEqual(len(made), 1)

    def test_wrong_inputs(self):
        for request in ORDINARY:
            inputs = inputs_for(request)
            for function in (derive, lambda request, inputs: follow(request, inputs, ())):
                for value in (None, 5, "abc", list(inputs), {}, b"abc"):
                    with self.assertRaises(OctetError):
                        function(request, value)
                for place in range(len(inputs)):
                    for value in NO_OCTETS:
                        # A part that is none comes before a wrong length or number of parts.
                        for others in (inputs, inputs + ((),), inputs[:place] + ((1,) * 99,) + inputs[place + 1:]):
                            with self.assertRaises(OctetError):
                                function(request, others[:place] + (value,) + others[place + 1:])
                            with self.assertRaises(OctetError):
                                function(request, others + (value,))
                    for wrong in (inputs[place] + (0,), inputs[place][:-1], (0,) * 5000):
                        with self.assertRaises(LengthError):
                            function(request, inputs[:place] + (wrong,) + inputs[place + 1:])
                for wrong in ((), inputs[:-1], inputs + ((),), inputs + inputs):
                    with self.assertRaises(LengthError):
                        function(request, wrong)

    def test_nothing_is_changed(self):
        for request in ORDINARY:
            inputs = inputs_for(request)
            derive(request, inputs)
            self.assertEqual(inputs, inputs_for(request))


if __name__ == "__main__":
    unittest.main()
