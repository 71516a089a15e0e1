"""Requests of jobs for the tests, and what the document says of them, written once more."""

from tests.common import BLOCKS, CHAINS, NAMES, SIZES, message

SCHEMES = ("hkdf", "counter", "feedback", "pipeline", "one_step", "pbkdf2", "scrypt", "argon2")
# The kinds of the parts behind the scheme: a word, a cost, the length of an input, the size.
SHAPES = {
    "hkdf": "wllls", "counter": "wllls", "feedback": "wlllls", "pipeline": "wllls", "one_step": "wlls",
    "pbkdf2": "wclls", "scrypt": "cccclls", "argon2": "wccclllls",
}
# How many of the inputs, from the last one backwards, are needed until the end.
KEPT = {"hkdf": 1, "counter": 2, "feedback": 3, "pipeline": 2, "one_step": 2, "pbkdf2": 1, "scrypt": 1,
        "argon2": 0}

ORDINARY = (
    ("hkdf", "sha256", 5, 9, 4, 70),
    ("counter", "sha1", 5, 3, 4, 50),
    ("feedback", "sha384", 5, 2, 3, 4, 100),
    ("pipeline", "sha224", 5, 3, 4, 60),
    ("one_step", "sha512", 9, 4, 130),
    ("pbkdf2", "sha1", 3, 4, 8, 50),
    ("scrypt", 4, 1, 2, 3, 5, 6, 40),
    ("argon2", "id", 17, 2, 2, 3, 8, 2, 1, 33),
)
EMPTY = (
    ("hkdf", "sha512", 0, 0, 0, 65),
    ("counter", "sha224", 0, 0, 0, 1),
    ("feedback", "sha256", 0, 0, 0, 0, 40),
    ("pipeline", "sha1", 0, 0, 0, 21),
    ("one_step", "sha384", 0, 0, 49),
    ("pbkdf2", "sha256", 2, 0, 0, 33),
    ("scrypt", 2, 1, 1, 1, 0, 0, 1),
    ("scrypt", 2, 1, 1, 2, 0, 0, 33),
    ("argon2", "d", 8, 1, 1, 0, 0, 0, 0, 4),
)
LONG = (
    ("hkdf", "sha1", 4096, 4096, 4096, 41),
    ("hkdf", "sha512", 129, 4096, 0, 4096),
    ("counter", "sha256", 4096, 4096, 4096, 64),
    ("feedback", "sha1", 4096, 4096, 4096, 4096, 45),
    ("pipeline", "sha512", 4096, 4096, 4096, 129),
    ("one_step", "sha224", 4096, 4096, 57),
    ("pbkdf2", "sha384", 2, 4096, 4096, 97),
    ("scrypt", 2, 2, 1, 2, 4096, 4096, 33),
    ("argon2", "i", 8, 1, 1, 4096, 4096, 4096, 4096, 64),
)
# Some inputs are empty and some are as long as a block, or longer or shorter by one octet.
EDGES = tuple(
    [("hkdf", name, BLOCKS[name] + more, length, 3, SIZES[name] + more)
     for name in ("sha1", "sha384") for more, length in ((-1, 0), (0, 1), (1, BLOCKS[name]))]
    + [("hkdf", "sha256", 0, 65, 0, 10), ("hkdf", "sha256", 64, 0, 0, 10), ("hkdf", "sha256", 65, 0, 5, 10)]
    + [(scheme, name, BLOCKS[name] + more, 0, 4, 2 * SIZES[name])
       for scheme in ("counter", "pipeline") for name in ("sha224", "sha512") for more in (-1, 0, 1)]
    + [("feedback", "sha1", 64 + more, 2, 0, 0, 21) for more in (0, 1)]
    + [("pbkdf2", "sha512", 2, 128 + more, 0, 65) for more in (-1, 0, 1)]
    + [("scrypt", 2, 1, 2, 1, 64 + more, 3, 32) for more in (0, 1)]
    + [("argon2", "id", 8, 1, 1, first, 0, second, 0, 16)
       for first, second in ((0, 88), (88, 0), (87, 1), (100, 216), (0, 300))]
    + [("argon2", "d", 8, 1, 1, 1, 1, 0, 2, 16), ("argon2", "i", 8, 1, 1, 0, 1, 0, 1, 16)])


def lengths(request):
    return tuple(value for shape, value in zip(SHAPES[request[0]], request[1:]) if shape == "l")


def inputs_for(request):
    return tuple(message(length, place) for place, length in enumerate(lengths(request)))


def count(size, block):
    return -(-size // block)


def columns(memory, lanes):
    return 4 * (memory // (4 * lanes))


def expected_cost(request):
    """The number of steps, by the document."""
    scheme, size = request[0], request[-1]
    if scheme == "pbkdf2":
        return request[2] * count(size, SIZES[request[1]])
    if scheme == "scrypt":
        n, r, p, gap = request[1:5]
        return count(128 * r * p, 32) + p * (n + n * gap) + count(size, 32)
    if scheme == "argon2":
        memory, passes, lanes = request[2:5]
        return passes * lanes * columns(memory, lanes)
    return count(size, SIZES[request[1]])


def expected_held(request):
    """The greatest number of numbers in a text, by the document."""
    scheme, size = request[0], request[-1]
    if scheme == "argon2":
        memory, lanes = request[2], request[4]
        words, block, digest, table = 8, 128, 64, lanes + 128 * lanes * columns(memory, lanes)
    elif scheme == "scrypt":
        n, r, p, gap = request[1:5]
        words, block, digest, table = 8, 64, 32, 32 * r * (2 + count(n, gap)) + 128 * r * p
    else:
        name = request[1]
        words, block, digest, table = CHAINS[name], BLOCKS[name], SIZES[name], 0
    kept = sum(lengths(request)[len(lengths(request)) - KEPT[scheme]:])
    return 64 + 4 * words + 2 * block + 4 * digest + kept + size + table


def expected_ready(request, steps):
    """The number of octets that so many steps have made."""
    scheme, size = request[0], request[-1]
    if scheme == "argon2":
        return size if steps == expected_cost(request) else 0
    if scheme == "pbkdf2":
        return min(size, steps // request[2] * SIZES[request[1]])
    if scheme == "scrypt":
        before = expected_cost(request) - count(size, 32)
        return min(size, max(steps - before, 0) * 32)
    return min(size, steps * SIZES[request[1]])


def numbers_of(text):
    """How many numbers a text contains."""
    return sum(word.isdigit() for word in text.split(" "))


def names_in(request):
    """The words at the start of the text of a job."""
    words = ["job", request[0]]
    return words if request[0] == "scrypt" else words + [request[1]]


def every_name(size=50):
    """A request for every scheme with each digest or kind."""
    for name in NAMES:
        yield ("hkdf", name, 3, 4, 5, size)
        yield ("counter", name, 3, 4, 5, size)
        yield ("feedback", name, 3, 4, 5, 6, size)
        yield ("pipeline", name, 3, 4, 5, size)
        yield ("one_step", name, 3, 4, size)
        yield ("pbkdf2", name, 2, 3, 4, size)
    yield ("scrypt", 2, 1, 1, 2, 3, 4, size)
    for kind in ("d", "i", "id"):
        yield ("argon2", kind, 8, 1, 1, 3, 4, 5, 6, size)
