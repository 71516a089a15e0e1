"""Jobs: each derivation in pieces, by a request that tells its costs and lengths beforehand."""

from saltmill.derivations import derived
from saltmill.errors import LengthError, OctetError
from saltmill.expansion import hkdf_expand, hkdf_extract
from saltmill.filling import argon2
from saltmill.forms import (absorbed_lengths, check_form, check_numbers, kept_lengths, lengths_of, named_parts,
                            octets_made, read_request, room_of_digest, room_of_table, step_count)
from saltmill.intakes import new_taker
from saltmill.mixing import scrypt
from saltmill.octets import MOST_OCTETS, check_octets, is_octets
from saltmill.saved import SavedText, is_number, saved_text
from saltmill.stretching import pbkdf2
from saltmill.works import new_work


def check_request(request):
    """Raise the errors for a request that is not valid."""
    check_form(request)
    check_numbers(request)


def input_lengths(request):
    """The lengths of the inputs of a request."""
    check_request(request)
    return lengths_of(request)


def cost(request):
    """The number of steps of a job."""
    check_request(request)
    return step_count(request)


def held(request):
    """The greatest number of numbers in the text of a job."""
    check_request(request)
    kept = sum(kept_lengths(request))
    return 64 + room_of_digest(request) + kept + request[-1] + room_of_table(request)


def check_inputs(request, inputs):
    """Raise the errors for inputs that are not those of a valid request."""
    if not isinstance(inputs, tuple):
        raise OctetError()
    for octets in inputs:
        if not is_octets(octets):
            raise OctetError()
    if tuple([len(octets) for octets in inputs]) != lengths_of(request):
        raise LengthError()


def derive(request, inputs):
    """The octets that the plain function of a request makes of the inputs."""
    check_request(request)
    check_inputs(request, inputs)
    scheme, name, size = request[0], request[1], request[-1]
    parts = named_parts(request)
    if scheme == "scrypt":
        password, salt = inputs
        return scrypt(password, salt, parts["n"], parts["r"], parts["p"], size)
    if scheme == "argon2":
        password, salt, secret, data = inputs
        return argon2(parts["kind"], password, salt, secret, data, parts["memory"], parts["passes"],
                      parts["lanes"], size)
    if scheme == "pbkdf2":
        password, salt = inputs
        return pbkdf2(name, password, salt, parts["rounds"], size)
    if scheme == "hkdf":
        salt, material, info = inputs
        return hkdf_expand(name, hkdf_extract(name, salt, material), info, size)
    # The other functions take the inputs in the order in which they come.
    return derived((scheme, name, *inputs, size))


class Job:
    """A derivation whose inputs come in pieces, whose steps are made, and whose output is read in pieces."""

    def __init__(self, request):
        check_request(request)
        self._request = request
        self._inputs_length = sum(lengths_of(request))
        self._cost = step_count(request)
        self._fed = 0
        self._made = 0
        self._octets_read = 0
        self._taker = new_taker(request)
        # The inputs that the taker does not absorb.
        self._kept = ()
        # It begins when the last octet of the inputs has come.
        self._work = None
        self._unread = ()
        self._take(())

    @property
    def missing(self):
        """The number of octets of the inputs that are still missing."""
        return self._inputs_length - self._fed

    @property
    def left(self):
        """The number of steps that are left."""
        return self._cost - self._made

    @property
    def ready(self):
        """The number of octets that can be read at this moment."""
        return len(self._unread)

    @property
    def unread(self):
        """The number of octets of the result that have not been read."""
        return self._request[-1] - self._octets_read

    def feed(self, octets):
        """Pass the next octets of the inputs."""
        check_octets(octets)
        if len(octets) > self.missing:
            raise LengthError()
        self._take(octets)

    def _take(self, octets):
        self._kept = self._kept + self._taker.take(octets)
        self._fed += len(octets)
        if self.missing == 0 and self._work is None:
            self._begin_work()

    def _begin_work(self):
        self._work = new_work(self._request, self._taker.outcome, self._kept)

    def run(self, count):
        """Make the next steps, or all that are left if they are fewer; how many were made."""
        if self.missing > 0:
            return 0
        many = min(max(count, 0), self.left)
        for _ in range(many):
            octets = self._work.step(self._made)
            self._made += 1
            # The last block may have more octets than the result still needs.
            self._unread = self._unread + octets[:self.unread - self.ready]
        return many

    def read(self, count):
        """The next octets of the result, or all that are ready if they are fewer."""
        many = max(count, 0)
        octets = self._unread[:many]
        self._unread = self._unread[many:]
        self._octets_read += len(octets)
        return octets

    def save(self):
        """The state as a text."""
        words = ["job"] + [str(part) for part in self._request]
        numbers = [self._fed, self._made, self._octets_read]
        numbers.extend(self._taker.numbers() + self._kept)
        if self._work is not None:
            numbers.extend(self._work.numbers(self._made))
        return saved_text(words, numbers + list(self._unread))

    def _restore(self, words):
        self._fed = words.number(0, self._inputs_length)
        self._made = words.number(0, self._cost if self.missing == 0 else 0)
        octets = octets_made(self._request, self._made)
        self._octets_read = words.number(0, octets)
        taken = min(self._fed, sum(absorbed_lengths(self._request)))
        self._taker.restore(words, taken)
        self._kept = words.numbers(self._fed - taken, 255)
        if self.missing == 0:
            self._begin_work()
            self._work.restore(words, self._made)
        self._unread = words.numbers(octets - self._octets_read, 255)


def restore_job(text):
    """The job that saved the text."""
    words = SavedText(text)
    words.word(("job",))
    job = Job(read_request(words))
    job._restore(words)
    words.end()
    return job


def follow(request, inputs, deeds):
    """The octets, the number of steps and the most numbers of a text of a job with these deeds."""
    check_request(request)
    check_inputs(request, inputs)
    job = Job(request)
    stream = [octet for octets in inputs for octet in octets]
    octets, steps, most = [], 0, 0
    for deed in deeds:
        if deed[0] == "feed":
            stream = stream[_feed_some(job, stream, deed[1]):]
        elif deed[0] == "run":
            steps += job.run(deed[1])
        elif deed[0] == "read":
            octets.extend(job.read(deed[1]))
        else:
            text = job.save()
            most = max(most, len([word for word in text.split(" ") if is_number(word)]))
            job = restore_job(text)
    return tuple(octets), steps, most


def _feed_some(job, stream, count):
    many = min(max(count, 0), len(stream))
    for at in range(0, many, MOST_OCTETS):
        job.feed(tuple(stream[at:min(at + MOST_OCTETS, many)]))
    return many
