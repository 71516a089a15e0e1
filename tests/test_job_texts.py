"""The texts of jobs: their bound, what they depend on, and texts that are none."""

import random
import unittest

from saltmill.jobs import Job, restore_job
from tests.common import NO_NAME_WORDS, CommonTest, no_numbers
from tests.sample_requests import (EDGES, EMPTY, LONG, ORDINARY, every_name, expected_cost, expected_held, expected_ready,
                                   lengths, names_in, numbers_of)
from tests.test_jobs import state, stream_of, wanted

SMALL = ORDINARY + EMPTY
# The bound is tight where rows and blocks are many.
TABLES = (("scrypt", 16, 1, 3, 1, 70, 100, 100), ("scrypt", 8, 4, 2, 3, 10, 20, 40), ("scrypt", 4, 2, 8, 4, 0, 0, 33),
          ("argon2", "i", 100, 2, 1, 90, 8, 40, 0, 512), ("argon2", "d", 64, 1, 8, 5, 8, 0, 0, 4))


def job_behind(request, octets, steps=0, count=0):
    job = Job(request)
    stream = stream_of(request)[:octets]
    for at in range(0, len(stream), 4096):
        job.feed(stream[at:at + 4096])
    job.run(steps)
    job.read(count)
    return job


def places_of(request, many=10 ** 9):
    """Places of a job: octets fed, steps made, octets read."""
    total, steps = sum(lengths(request)), expected_cost(request)
    for octets in range(0, total, max(total // many, 1)):
        yield octets, 0, 0
    for made in sorted(set(range(0, steps, max(steps // many, 1))) | {steps}):
        ready = expected_ready(request, made)
        for count in sorted({0, min(1, ready), ready // 2, max(ready - 1, 0), ready}):
            yield total, made, count


def finish(job, request):
    """Feed, run and read what is left; the octets that are read."""
    stream = stream_of(request)
    stream = stream[len(stream) - job.missing:]
    for at in range(0, len(stream), 4096):
        job.feed(stream[at:at + 4096])
    job.run(10 ** 9)
    return job.read(10 ** 9)


class BoundTest(CommonTest):
    def within(self, request, job):
        words = job.save().split(" ")
        names = names_in(request)
        self.assertEqual(words[:len(names)], names)
        for word in words[len(names):]:
            self.assertTrue(word.isascii() and word.isdigit() and str(int(word)) == word and len(word) <= 40, word)
        self.assertLessEqual(len(words) - len(names), expected_held(request), (request, state(job)))

    def test_at_every_moment(self):
        for request in SMALL + tuple(every_name()) + EDGES:
            for place in places_of(request):
                self.within(request, job_behind(request, *place))

    def test_tables(self):
        for request in TABLES:
            job = job_behind(request, 10 ** 9)
            self.within(request, job)
            while job.run(1) == 1:
                self.within(request, job)
            for _ in range(request[-1]):
                job.read(1)
                self.within(request, job)

    def test_long_inputs(self):
        for request in LONG:
            starts = [sum(lengths(request)[:place]) for place in range(len(lengths(request)) + 1)]
            near = {start + more for start in starts for more in (-129, -128, -1, 0, 1, 63, 64, 127, 128, 129, 2000)}
            job, fed, stream = Job(request), 0, stream_of(request)
            for octets in sorted(place for place in near if 0 <= place <= len(stream)):
                while fed < octets:
                    piece = stream[fed:min(octets, fed + 4096)]
                    job.feed(piece)
                    fed += len(piece)
                self.within(request, job)
            while job.left > 0:
                job.run(1)
                self.within(request, job)
                job.read(3)
                self.within(request, job)

    def test_inputs_that_are_not_needed_do_not_stand(self):
        # However long the salt and the material are, the text has as many numbers.
        for part, request in ((2, ("hkdf", "sha256", 100, 100, 5, 40)), (3, ("hkdf", "sha256", 100, 100, 5, 40)),
                              (2, ("counter", "sha1", 100, 5, 5, 40)), (3, ("pbkdf2", "sha1", 2, 100, 5, 40)),
                              (5, ("scrypt", 2, 1, 1, 1, 100, 5, 40)), (5, ("argon2", "d", 8, 1, 1, 100, 5, 5, 5, 40))):
            longer = request[:part] + (4096,) + request[part + 1:]
            for one in (job_behind, lambda request, octets: job_behind(request, octets, 1)):
                self.assertEqual(numbers_of(one(request, 10 ** 9).save()), numbers_of(one(longer, 10 ** 9).save()))


class SaveTest(CommonTest):
    def test_saving_changes_nothing(self):
        for request in SMALL:
            for place in places_of(request, 6):
                job = job_behind(request, *place)
                before = state(job)
                self.assertEqual((job.save(), state(job)), (job.save(), before))
                self.assertEqual(finish(job, request), wanted(request)[place[2]:])

    def test_the_cuts_do_not_matter(self):
        source = random.Random(88)
        for request in SMALL + EDGES:
            stream = stream_of(request)
            for octets, steps, count in places_of(request, 6):
                text = job_behind(request, octets, steps, count).save()
                job, fed, read = Job(request), 0, 0
                while fed < octets or job.left > expected_cost(request) - steps or read < count:
                    many = min(source.randrange(50), octets - fed)
                    job.feed(stream[fed:fed + many])
                    fed += many
                    job.run(min(source.randrange(4), job.left - expected_cost(request) + steps))
                    read += len(job.read(min(source.randrange(20), count - read)))
                    if source.randrange(3) == 0:
                        job = restore_job(job.save())
                self.assertEqual(job.save(), text, (request, octets, steps, count))

    def test_places_have_texts_of_their_own(self):
        for request in ORDINARY:
            texts = [job_behind(request, *place).save() for place in set(places_of(request))]
            self.assertEqual(len(set(texts)), len(texts))

    def test_requests_have_texts_of_their_own(self):
        requests = ORDINARY + EMPTY + tuple(every_name())
        requests += tuple(request[:-1] + (request[-1] + 1,) for request in requests)
        texts = [Job(request).save() for request in set(requests)]
        self.assertEqual(len(set(texts)), len(texts))


class RestoreTest(CommonTest):
    def same(self, request, place):
        job = job_behind(request, *place)
        text = job.save()
        restored = restore_job(text)
        self.assertIsInstance(restored, Job)
        self.assertEqual(restored.save(), text, (request, place))
        self.assertEqual(state(restored), state(job))
        self.assertEqual(finish(restored, request), wanted(request)[place[2]:], (request, place))
        self.assertEqual(state(restored), (0, 0, 0, 0))
        # The other one is not changed by what the restored one does.
        self.assertEqual(job.save(), text)

    def test_every_place(self):
        for request in SMALL:
            for place in places_of(request, 25):
                self.same(request, place)

    def test_every_name(self):
        for request in every_name():
            for place in places_of(request, 5):
                self.same(request, place)

    def test_edges(self):
        for request in EDGES:
            starts = [sum(lengths(request)[:place]) for place in range(len(lengths(request)) + 1)]
            for octets in {start + more for start in starts for more in (-1, 0, 1)}:
                if 0 <= octets <= starts[-1]:
                    self.same(request, (octets, 0, 0))

    def test_long_inputs(self):
        for request in LONG:
            for place in places_of(request, 4):
                self.same(request, place)

    def test_again_and_again(self):
        for request in SMALL + EDGES:
            job, octets, stream = Job(request), (), stream_of(request)
            while job.missing > 0:
                job.feed(stream[len(stream) - job.missing:][:11])
                job = restore_job(job.save())
            while job.unread > 0:
                job.run(1)
                job = restore_job(job.save())
                octets += job.read(9)
                job = restore_job(job.save())
            self.assertEqual(octets, wanted(request))

    def test_the_octets_that_are_missing(self):
        for request in ORDINARY:
            job = restore_job(job_behind(request, 3).save())
            self.assertEqual((job.run(5), job.read(5), job.missing), (0, (), sum(lengths(request)) - 3))


class NoJobTest(CommonTest):
    def words_of(self, request):
        """The words of some texts of a request."""
        total, steps = sum(lengths(request)), expected_cost(request)
        for place in ((0,), (total // 2,), (total,), (total, steps // 2), (total, steps, request[-1] // 2),
                      (total, steps, request[-1])):
            yield job_behind(request, *place).save().split(" ")

    def test_wrong_starts(self):
        for request in ORDINARY:
            for words in self.words_of(request):
                self.refuses_wrong_starts(restore_job, words)

    def test_unknown_words(self):
        for request in ORDINARY:
            words = job_behind(request, 3).save().split(" ")
            for word in ("", "HKDF", "label", "job", "0", "sha1", words[1][:-1], words[1] + "s"):
                self.refuses_with(restore_job, words, 1, word)
            names = ("D", "argon2id", "sha1", "0", "") if request[0] == "argon2" else NO_NAME_WORDS + ("d", "0")
            if request[0] != "scrypt":
                for word in names:
                    self.refuses_with(restore_job, words, 2, word)
                self.refuses_words(restore_job, words[:2] + ["x", "x"], 2)

    def test_words_that_are_no_numbers(self):
        source = random.Random(87)
        for request in ORDINARY:
            first = len(names_in(request))
            for words in self.words_of(request):
                places = set(range(first, min(first + 12, len(words)))) | {len(words) - 1}
                places |= {source.randrange(first, len(words)) for _ in range(20)}
                for at in sorted(places):
                    for word in no_numbers(words[at]):
                        self.refuses_with(restore_job, words, at, word)
                    # Both words are wrong, and the first one counts.
                    self.refuses_words(restore_job, words[:at] + ["x"] + ["y"] * (len(words) - at - 1), at)

    def test_too_few_and_too_many_words(self):
        for request in ORDINARY:
            for words in self.words_of(request):
                for many in list(range(1, min(len(words), 40))) + [len(words) - 1, len(words) // 2]:
                    self.refuses_words(restore_job, words[:many], many)
                for more in (["0"], ["1", "2"], [""], ["x"], ["0"] * 128):
                    self.refuses_words(restore_job, words + more, len(words))

    def test_octets_that_are_none(self):
        # The request, a place, and how many words at the end of the text are octets there.
        for request, place, many in (
                (("pbkdf2", "sha1", 3, 4, 8, 50), (3,), 3), (("pbkdf2", "sha1", 3, 4, 8, 50), (12,), 8),
                # The salt, a link, a block, and what is ready and not read.
                (("pbkdf2", "sha1", 3, 4, 8, 50), (12, 7, 30), 8 + 20 + 20 + 10),
                (("pbkdf2", "sha1", 3, 70, 8, 50), (69,), 5), (("hkdf", "sha256", 5, 9, 4, 70), (10,), 5),
                (("hkdf", "sha256", 5, 9, 4, 70), (18, 1), 4 + 32 + 32), (("one_step", "sha1", 9, 4, 25), (11,), 11),
                (("pipeline", "sha1", 5, 3, 4, 30), (12, 1, 15), 7 + 40 + 5),
                (("scrypt", 4, 1, 2, 3, 5, 6, 40), (11, 3), 6 + 96),
                # The octets of the seed; before it those that wait: numbers, two lengths and what was fed.
                (("argon2", "id", 17, 2, 2, 3, 8, 2, 1, 33), (14,), 64),
                (("argon2", "id", 17, 2, 2, 3, 8, 2, 1, 33), (4,), 24 + 4 + 3 + 4 + 1),
                (("argon2", "id", 17, 2, 2, 3, 8, 2, 1, 33), (14, 32, 3), 64 + 30)):
            words = job_behind(request, *place).save().split(" ")
            for at in range(len(words) - many, len(words)):
                self.refuses_with(restore_job, words, at, 256)
                self.keeps(restore_job, " ".join(words[:at] + ["255"] + words[at + 1:]))

    def test_a_job_goes_on_with_the_numbers_of_its_text(self):
        # Without any input the key is there from the start, and the text tells another one.
        for request in EMPTY:
            if request[0] != "one_step":
                words = Job(request).save().split(" ")
                words[-1] = str(int(words[-1]) ^ 1)
                job = restore_job(" ".join(words))
                self.assertEqual(job.save(), " ".join(words))
                self.assertNotEqual(finish(job, request), wanted(request))

    def test_numbers_that_no_job_has(self):
        for request in ORDINARY:
            words = job_behind(request, 10 ** 9).save().split(" ")
            first = len(names_in(request))
            for at in range(first, len(words)):
                self.refuses_with(restore_job, words, at, 10 ** 39)
        words = job_behind(("pbkdf2", "sha1", 3, 4, 8, 50), 12, 7, 30).save().split(" ")
        # The request, the octets fed, the steps made and the octets read.
        self.assertEqual(words[:11], ["job", "pbkdf2", "sha1", "3", "4", "8", "50", "12", "7", "30", words[10]])
        for at, number in ((3, 0), (3, 1000001), (4, 4097), (5, 4097), (6, 0), (6, 4097), (7, 13), (8, 10), (9, 41)):
            self.refuses_with(restore_job, words, at, number)
        # While octets are missing no steps are made.
        words = job_behind(("pbkdf2", "sha1", 3, 4, 8, 50), 11).save().split(" ")
        self.refuses_with(restore_job, words, 8, 1)
        words = job_behind(("scrypt", 4, 2, 2, 3, 5, 6, 40), 3).save().split(" ")
        for at, number in ((2, 3), (2, 131072), (3, 0), (3, 9), (4, 9), (5, 0), (5, 5), (6, 4097), (8, 0)):
            self.refuses_with(restore_job, words, at, number)
        self.refuses_words(restore_job, ["job", "scrypt", "65536", "2"] + words[4:], 3)
        words = job_behind(("argon2", "d", 17, 2, 2, 3, 8, 2, 1, 33), 3).save().split(" ")
        for at, number in ((3, 4097), (4, 0), (4, 17), (5, 0), (5, 3), (5, 9), (6, 4097), (10, 3), (10, 513)):
            self.refuses_with(restore_job, words, at, number)


if __name__ == "__main__":
    unittest.main()
