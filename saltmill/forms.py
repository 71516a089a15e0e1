"""The requests of jobs: their parts, and what follows from them before any input comes."""

from saltmill.costs import (MOST_MEMORY, RANGES, check_cost, check_gap, check_memory, check_product,
                            choices_of_n, is_integer, most_lanes, most_r)
from saltmill.errors import ChoiceError, LengthError
from saltmill.families import BLOCK_LENGTHS, NAMES, SIZES, start_chain
from saltmill.filling import LEAST_TAG, MOST_TAG
from saltmill.matrix import KINDS, SLICES, segment_width
from saltmill.mixing import SCRYPT_DIGEST
from saltmill.octets import MOST_OCTETS
from saltmill.stretching import MOST_SIZE

SCHEMES = ("hkdf", "counter", "feedback", "pipeline", "one_step", "pbkdf2", "scrypt", "argon2")
# The parts behind the scheme; the last one is always the size of the output.
PARTS = {
    "hkdf": ("name", "salt", "material", "info", "size"),
    "counter": ("name", "key", "label", "context", "size"),
    "feedback": ("name", "key", "iv", "label", "context", "size"),
    "pipeline": ("name", "key", "label", "context", "size"),
    "one_step": ("name", "secret", "info", "size"),
    "pbkdf2": ("name", "rounds", "password", "salt", "size"),
    "scrypt": ("n", "r", "p", "gap", "password", "salt", "size"),
    "argon2": ("kind", "memory", "passes", "lanes", "password", "salt", "secret", "data", "size"),
}
WORD_PARTS = ("name", "kind")
COST_PARTS = ("rounds", "n", "r", "p", "gap", "memory", "passes", "lanes")
# How many of the inputs, from the first one on, are not needed any more when they have come.
ABSORBED = {"hkdf": 2, "one_step": 0, "argon2": 4}
ORDINARY_ABSORBED = 1


def is_input(part):
    """True if a part is the length of an input."""
    return part not in WORD_PARTS and part not in COST_PARTS and part != "size"


def size_range(scheme):
    """The least and the greatest size of an output."""
    return (LEAST_TAG, MOST_TAG) if scheme == "argon2" else (1, MOST_SIZE)


def check_form(request):
    """Raise ChoiceError if the request is no tuple of a known form."""
    if not isinstance(request, tuple) or len(request) == 0 or request[0] not in SCHEMES:
        raise ChoiceError()
    if len(request) != 1 + len(PARTS[request[0]]):
        raise ChoiceError()
    for part, value in zip(PARTS[request[0]], request[1:]):
        if part == "name" and value not in NAMES or part == "kind" and value not in KINDS:
            raise ChoiceError()


def check_length(value, least, most):
    """Raise LengthError if a value is no length or size in this range."""
    if not is_integer(value) or not least <= value <= most:
        raise LengthError()


def check_numbers(request):
    """Raise the errors for the numbers of a request that has a known form."""
    parts = named_parts(request)
    for part in PARTS[request[0]]:
        value = parts[part]
        if part == "gap":
            check_gap(value, parts["n"])
        elif part in COST_PARTS:
            check_cost(part, value)
        elif part == "size":
            least, most = size_range(request[0])
            check_length(value, least, most)
        elif is_input(part):
            check_length(value, 0, MOST_OCTETS)
    if request[0] == "scrypt":
        check_product(parts["n"], parts["r"])
    if request[0] == "argon2":
        check_memory(parts["memory"], parts["lanes"])


def named_parts(request):
    """The values of a request by the names of its parts."""
    return dict(zip(("scheme",) + PARTS[request[0]], request))


def lengths_of(request):
    """The lengths of the inputs."""
    return tuple([value for part, value in zip(PARTS[request[0]], request[1:]) if is_input(part)])


def absorbed_lengths(request):
    """The lengths of the inputs that are not needed any more when they have come."""
    return lengths_of(request)[:ABSORBED.get(request[0], ORDINARY_ABSORBED)]


def kept_lengths(request):
    """The lengths of the inputs that are needed until the end."""
    return lengths_of(request)[ABSORBED.get(request[0], ORDINARY_ABSORBED):]


def column_count(parts):
    """The number of columns of a lane of Argon2."""
    return SLICES * segment_width(parts["memory"], parts["lanes"])


def pace(request):
    """The steps before all blocks of the output, the steps of each, and the octets of each."""
    parts = named_parts(request)
    if request[0] == "argon2":
        return 0, parts["passes"] * parts["lanes"] * column_count(parts), parts["size"]
    if request[0] == "scrypt":
        block = SIZES[SCRYPT_DIGEST]
        links = 128 * parts["r"] * parts["p"] // block
        return links + parts["p"] * (parts["n"] + parts["n"] * parts["gap"]), 1, block
    return 0, parts.get("rounds", 1), SIZES[parts["name"]]


def step_count(request):
    """The number of steps of a job."""
    before, each, block = pace(request)
    return before + each * ((request[-1] + block - 1) // block)


def octets_made(request, steps):
    """The number of octets of the output that so many steps have made."""
    before, each, block = pace(request)
    return min(max(steps - before, 0) // each * block, request[-1])


def room_of_digest(request):
    """The part of the numbers of a text that the digest of a request may need."""
    if request[0] == "argon2":
        words, block, size = 8, 128, 64
    else:
        name = SCRYPT_DIGEST if request[0] == "scrypt" else request[1]
        words, block, size = len(start_chain(name)), BLOCK_LENGTHS[name], SIZES[name]
    return 4 * words + 2 * block + 4 * size


def room_of_table(request):
    """The part of the numbers of a text that rows or blocks may need."""
    parts = named_parts(request)
    if request[0] == "scrypt":
        rows = (parts["n"] + parts["gap"] - 1) // parts["gap"]
        return 32 * parts["r"] * (2 + rows) + 128 * parts["r"] * parts["p"]
    if request[0] == "argon2":
        return parts["lanes"] + 128 * parts["lanes"] * column_count(parts)
    return 0


def read_request(words):
    """The request that the next words of a saved text tell."""
    parts = {"scheme": words.word(SCHEMES)}
    for part in PARTS[parts["scheme"]]:
        parts[part] = _read_part(words, part, parts)
    return tuple(parts.values())


def _read_part(words, part, parts):
    if part == "name":
        return words.word(NAMES)
    if part == "kind":
        return words.word(KINDS)
    if part == "n":
        return words.choice(choices_of_n(1))
    least, most = _part_range(part, parts)
    return words.number(least, most)


def _part_range(part, parts):
    # Ranges that join several parts are those of the last one of them.
    if part == "r":
        return 1, most_r(parts["n"])
    if part == "gap":
        return 1, parts["n"]
    if part == "memory":
        return 0, MOST_MEMORY
    if part == "lanes":
        return 1, most_lanes(parts["memory"])
    if part == "size":
        return size_range(parts["scheme"])
    return (0, MOST_OCTETS) if is_input(part) else RANGES[part]
