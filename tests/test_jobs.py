"""The class Job: feeding, running and reading in pieces, and `follow`."""

import functools
import random
import unittest

from saltmill.errors import LengthError, OctetError
from saltmill.jobs import Job, derive, follow, restore_job
from tests.common import NO_OCTETS, CommonTest
from tests.sample_requests import (EDGES, EMPTY, LONG, ORDINARY, every_name, expected_cost, expected_held, expected_ready,
                                   inputs_for, lengths, numbers_of)

SMALL = ORDINARY + EMPTY


def stream_of(request):
    return sum(inputs_for(request), ())


def fed(request):
    job = Job(request)
    feed_all(job, stream_of(request))
    return job


def feed_all(job, stream):
    for at in range(0, len(stream), 4096):
        job.feed(stream[at:at + 4096])


def state(job):
    return (job.missing, job.left, job.ready, job.unread)


@functools.lru_cache(maxsize=None)
def wanted(request):
    return derive(request, inputs_for(request))


class FeedTest(CommonTest):
    def test_the_start(self):
        for request in SMALL + LONG:
            job = Job(request)
            self.assertEqual(state(job), (sum(lengths(request)), expected_cost(request), 0, request[-1]))

    def test_cut_anywhere(self):
        for request in SMALL + EDGES:
            stream = stream_of(request)
            for step in (1, 2, 3, 5, 7, 50, 64, 65, 128, 4096):
                job, at = Job(request), 0
                while job.missing > 0:
                    self.assertIsNone(job.feed(stream[at:at + step]))
                    at = min(at + step, len(stream))
                    self.assertEqual(job.missing, len(stream) - at)
                job.run(10 ** 9)
                self.assertEqual(job.read(10 ** 9), wanted(request), (request, step))

    def test_two_pieces(self):
        for request in ORDINARY:
            stream = stream_of(request)
            for at in range(len(stream) + 1):
                job = Job(request)
                for piece in (stream[:at], (), stream[at:], ()):
                    job.feed(piece)
                job.run(10 ** 9)
                self.assertEqual(job.read(10 ** 9), wanted(request))

    def test_long_inputs(self):
        for request in LONG:
            job = fed(request)
            job.run(10 ** 9)
            self.assertEqual(job.read(10 ** 9), wanted(request))

    def test_too_much(self):
        for request in SMALL:
            stream = stream_of(request)
            for at in {0, 1, len(stream) // 2, max(len(stream) - 1, 0), len(stream)}:
                job = Job(request)
                job.feed(stream[:at])
                text, before = job.save(), state(job)
                for many in (1, 2, 100):
                    with self.assertRaises(LengthError):
                        job.feed(stream[at:] + (0,) * many)
                self.assertEqual((job.save(), state(job)), (text, before))
                job.feed(stream[at:])
                job.run(10 ** 9)
                with self.assertRaises(LengthError):
                    job.feed((0,))
                job.feed(())
                self.assertEqual(job.read(10 ** 9), wanted(request))

    def test_pieces_that_are_too_long(self):
        job = Job(("one_step", "sha1", 4096, 4096, 20))
        text = job.save()
        with self.assertRaises(LengthError):
            job.feed((0,) * 4097)
        self.assertEqual((job.save(), job.missing), (text, 8192))
        self.assertIsNone(job.feed((0,) * 4096))

    def test_what_is_no_piece(self):
        for request in SMALL:
            job = Job(request)
            text = job.save()
            for value in NO_OCTETS:
                with self.assertRaises(OctetError):
                    job.feed(value)
            self.assertEqual(job.save(), text)


class RunTest(CommonTest):
    def test_example(self):
        job = fed(("pbkdf2", "sha1", 3, 4, 8, 50))
        self.assertEqual((job.left, job.ready, job.unread), (9, 0, 50))
        self.assertEqual((job.run(7), job.ready, job.left), (7, 40, 2))

    def test_while_octets_are_missing(self):
        for request in ORDINARY:
            stream = stream_of(request)
            for at in range(len(stream)):
                job = Job(request)
                job.feed(stream[:at])
                text, before = job.save(), state(job)
                self.assertEqual((job.run(1), job.run(10 ** 9), job.read(10), job.run(-1)), (0, 0, (), 0))
                self.assertEqual((job.save(), state(job)), (text, before))

    def test_what_is_ready_after_each_step(self):
        for request in SMALL + tuple(every_name()):
            job = fed(request)
            total = expected_cost(request)
            for steps in range(total):
                ready = expected_ready(request, steps)
                self.assertEqual(state(job), (0, total - steps, ready, request[-1]), request)
                self.assertEqual(job.run(1), 1)
            self.assertEqual((state(job), job.run(1)), ((0, 0, request[-1], request[-1]), 0))
            self.assertEqual(job.read(10 ** 9), wanted(request))

    def test_counts(self):
        for request in SMALL:
            total = expected_cost(request)
            job = fed(request)
            for count in (0, -1, -10 ** 30):
                text = job.save()
                self.assertEqual((job.run(count), job.left, job.save()), (0, total, text))
            self.assertEqual(job.run(total - 1), total - 1)
            self.assertEqual((job.run(-5), job.run(5), job.run(5)), (0, 1, 0))

    def test_the_greatest_size(self):
        for request in (("hkdf", "sha1", 1, 1, 1, 4096), ("counter", "sha512", 1, 1, 1, 4096),
                        ("feedback", "sha224", 1, 1, 1, 1, 4096), ("pipeline", "sha384", 1, 1, 1, 4096),
                        ("one_step", "sha1", 1, 1, 4096), ("pbkdf2", "sha1", 1, 1, 1, 4096),
                        ("scrypt", 2, 1, 1, 1, 1, 1, 4096), ("argon2", "d", 8, 1, 1, 0, 0, 0, 0, 512)):
            job = fed(request)
            job.run(10 ** 9)
            self.assertEqual((job.ready, job.read(10 ** 9)), (request[-1], wanted(request)))


class ReadTest(CommonTest):
    def test_in_pieces(self):
        for request in SMALL:
            output = wanted(request)
            for step in (1, 3, 20, 21, 32, 64, 4096, 10 ** 30):
                job, octets = fed(request), ()
                job.run(10 ** 9)
                while job.unread > 0:
                    piece = job.read(step)
                    self.assertIsInstance(piece, tuple)
                    self.assertEqual(len(piece), min(step, len(output) - len(octets)))
                    octets += piece
                    left = len(output) - len(octets)
                    self.assertEqual((job.ready, job.unread), (left, left))
                self.assertEqual((octets, job.read(step), job.read(1)), (output, (), ()))

    def test_no_octets(self):
        for request in SMALL:
            job = fed(request)
            job.run(expected_cost(request) * 2 // 3)
            for steps in (0, 10 ** 9):
                job.run(steps)
                text, before = job.save(), state(job)
                for count in (0, -1, -10 ** 30):
                    self.assertEqual((job.read(count), state(job), job.save()), ((), before, text))

    def test_in_turns(self):
        for request in SMALL:
            output, total = wanted(request), expected_cost(request)
            for run, count in ((1, 1), (1, 100), (2, 33), (7, 5), (total, 9)):
                job, octets, steps = fed(request), (), 0
                while job.unread > 0:
                    steps += job.run(run)
                    ready = expected_ready(request, steps) - len(octets)
                    self.assertEqual(job.ready, ready)
                    piece = job.read(count)
                    self.assertEqual(len(piece), min(count, ready))
                    octets += piece
                    self.assertEqual(octets, output[:len(octets)])
                    self.assertEqual(job.unread, len(output) - len(octets))
                self.assertEqual(octets, output)


class SideBySideTest(CommonTest):
    def test_several_jobs(self):
        source = random.Random(2)
        requests = ORDINARY + tuple(every_name()) + ORDINARY
        jobs = [[request, Job(request), stream_of(request), ()] for request in requests]
        while any(job.unread > 0 for _, job, _, _ in jobs):
            one = source.choice(jobs)
            job = one[1]
            many = min(source.randrange(8), job.missing)
            job.feed(one[2][:many])
            one[2] = one[2][many:]
            job.run(source.randrange(9))
            one[3] += job.read(source.randrange(30))
            if source.randrange(9) == 0:
                one[1] = restore_job(job.save())
        for request, job, stream, octets in jobs:
            self.assertEqual((octets, stream, job.left), (wanted(request), (), 0))


def random_deeds(request, source):
    """Deeds of every kind, the last of which finish the job."""
    deeds = []
    for _ in range(source.randrange(40)):
        name = source.choice(("feed", "run", "read", "save"))
        most = {"feed": sum(lengths(request)), "run": expected_cost(request), "read": request[-1], "save": 0}[name]
        if name == "save":
            deeds.append(("save",))
        else:
            deeds.append((name, source.randrange(-2, most // source.choice((1, 4, 20)) + 2)))
    return deeds + [("feed", 10 ** 9), ("run", 10 ** 9), ("save",), ("read", 10 ** 9)]


class FollowTest(CommonTest):
    def test_no_deeds(self):
        for request in SMALL:
            for deeds in ((), []):
                self.assertEqual(follow(request, inputs_for(request), deeds), ((), 0, 0))

    def test_a_straight_way(self):
        for request in SMALL + LONG + EDGES:
            deeds = (("feed", 10 ** 9), ("run", 10 ** 9), ("read", 10 ** 9))
            self.assertEqual(follow(request, inputs_for(request), deeds), (wanted(request), expected_cost(request), 0))

    def test_counts_of_steps_and_octets(self):
        request = ("pbkdf2", "sha1", 3, 4, 8, 50)
        inputs, output = inputs_for(request), wanted(request)
        for deeds, octets, steps in (
                ((("feed", 11), ("run", 5), ("read", 5)), (), 0),
                ((("feed", 12), ("run", 5), ("read", 5)), output[:5], 5),
                ((("feed", 13), ("run", -5), ("read", 5)), (), 0),
                ((("feed", 5), ("feed", -7), ("feed", 7), ("run", 7), ("read", 30), ("read", -1), ("read", 30)),
                 output[:40], 7),
                ((("run", 3), ("feed", 12), ("run", 4), ("run", 0), ("run", 3), ("read", 0)), (), 7),
                ((("feed", 12), ("run", 100), ("run", 1), ("read", 49), ("read", 9), ("read", 9)), output, 9)):
            for kind in (tuple, list):
                self.assertEqual(follow(request, inputs, kind(deeds)), (octets, steps, 0))

    def test_saving(self):
        for request in SMALL:
            job = Job(request)
            numbers = [numbers_of(job.save())]
            stream = stream_of(request)
            job.feed(stream[:len(stream) // 2])
            numbers.append(numbers_of(job.save()))
            job.feed(stream[len(stream) // 2:])
            job.run(expected_cost(request) // 2)
            numbers.append(numbers_of(job.save()))
            deeds = [("save",), ("feed", len(stream) // 2), ("save",), ("feed", 10 ** 9),
                     ("run", expected_cost(request) // 2), ("save",)]
            made = follow(request, inputs_for(request), deeds)
            self.assertEqual(made, ((), expected_cost(request) // 2, max(numbers)))
            self.assertEqual(follow(request, inputs_for(request), deeds[:1]), ((), 0, numbers[0]))

    def test_random_deeds(self):
        source = random.Random(89)
        for request in SMALL + tuple(every_name()) + EDGES:
            for _ in range(4):
                deeds = random_deeds(request, source)
                before = list(deeds)
                octets, steps, most = follow(request, inputs_for(request), deeds)
                self.assertEqual(deeds, before)
                self.assertIsInstance(octets, tuple)
                self.assertEqual((octets, steps), (wanted(request), expected_cost(request)))
                self.assertTrue(0 < most <= expected_held(request), (request, most))
                self.assertEqual(follow(request, inputs_for(request), tuple(deeds)), (octets, steps, most))

    def test_long_inputs(self):
        source = random.Random(90)
        for request in LONG:
            deeds = random_deeds(request, source)
            octets, steps, most = follow(request, inputs_for(request), deeds)
            self.assertEqual((octets, steps), (wanted(request), expected_cost(request)))
            self.assertLessEqual(most, expected_held(request))

    def test_a_read_before_the_end(self):
        for request in SMALL:
            deeds = [("feed", 10 ** 9), ("save",)] + [("run", 1), ("read", 7), ("save",)] * expected_cost(request)
            octets, steps, _ = follow(request, inputs_for(request), deeds)
            self.assertEqual(octets, wanted(request)[:len(octets)])
            self.assertEqual(steps, expected_cost(request))


if __name__ == "__main__":
    unittest.main()
