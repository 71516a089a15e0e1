"""Password records: texts that state how a password was stretched, and what came out."""

from saltmill.costs import check_cost, fit_memory, fit_product, is_cost
from saltmill.errors import CostError, LengthError, RecordError, TextError
from saltmill.expansion import hkdf_expand
from saltmill.filling import argon2
from saltmill.mixing import scrypt
from saltmill.octets import check_limited, check_octets, from_ascii, from_base64, same_octets, to_base64
from saltmill.saved import is_number
from saltmill.stretching import check_size, pbkdf2

SCHEMES = ("pbkdf2-sha1", "pbkdf2-sha256", "pbkdf2-sha512", "scrypt", "argon2d", "argon2i", "argon2id")
PBKDF2_COSTS = ("rounds",)
SCRYPT_COSTS = ("n", "r", "p")
ARGON2_COSTS = ("memory", "passes", "lanes")
LETTERS = {"rounds": "c", "n": "n", "r": "r", "p": "p", "memory": "m", "passes": "t", "lanes": "p"}
MOST_COST_DIGITS = 10
LEAST_SALT = 8
MOST_SALT = 64
LEAST_TAG = 16
MOST_TAG = 64
MOST_LABEL = 255
MAIN_KEY_SIZE = 32


def cost_names(scheme):
    """The names of the costs of a scheme, in their order."""
    if scheme == "scrypt":
        return SCRYPT_COSTS
    return ARGON2_COSTS if scheme.startswith("argon2") else PBKDF2_COSTS


def fit_together(scheme, costs):
    """True if the costs of a scheme, each of them right, are right together."""
    if scheme == "scrypt":
        return fit_product(costs[0], costs[1])
    if scheme.startswith("argon2"):
        return fit_memory(costs[0], costs[2])
    return True


def check_costs(scheme, costs):
    """Raise CostError if these are no costs of a scheme."""
    if scheme not in SCHEMES or not isinstance(costs, tuple) or len(costs) != len(cost_names(scheme)):
        raise CostError()
    for name, value in zip(cost_names(scheme), costs):
        check_cost(name, value)
    if not fit_together(scheme, costs):
        raise CostError()


def check_between(size, least, most):
    """Raise LengthError for a size that is out of a range."""
    if not least <= size <= most:
        raise LengthError()


def output(scheme, costs, salt, size, password):
    """What the function of a scheme makes of a password."""
    if scheme == "scrypt":
        n, r, p = costs
        return scrypt(password, salt, n, r, p, size)
    if scheme.startswith("argon2"):
        memory, passes, lanes = costs
        kind = scheme.removeprefix("argon2")
        return argon2(kind, password, salt, (), (), memory, passes, lanes, size)
    return pbkdf2(scheme.removeprefix("pbkdf2-"), password, salt, costs[0], size)


def record_text(scheme, costs, salt, tag):
    """The text of a record that is right."""
    parts = [f"{LETTERS[name]}={value}" for name, value in zip(cost_names(scheme), costs)]
    return "$".join(["", scheme, ",".join(parts), to_base64(salt), to_base64(tag)])


def write_record(record):
    """The text of a record."""
    scheme, costs, salt, tag = record
    check_costs(scheme, costs)
    check_limited(salt, MOST_SALT, LEAST_SALT)
    check_limited(tag, MOST_TAG, LEAST_TAG)
    return record_text(scheme, costs, salt, tag)


def parse_record(text):
    """The record of a text."""
    if not isinstance(text, str) or not text.startswith("$") or text.count("$") != 4:
        raise RecordError(0)
    _, scheme, costs_text, salt_text, tag_text = text.split("$")
    at = 1
    if scheme not in SCHEMES:
        raise RecordError(at)
    at += len(scheme) + 1
    costs = _parsed_costs(scheme, costs_text, at)
    at += len(costs_text) + 1
    salt = _parsed_octets(salt_text, LEAST_SALT, MOST_SALT, at)
    at += len(salt_text) + 1
    tag = _parsed_octets(tag_text, LEAST_TAG, MOST_TAG, at)
    return scheme, costs, salt, tag


def _parsed_costs(scheme, text, start):
    names = cost_names(scheme)
    parts = text.split(",")
    if len(parts) != len(names):
        raise RecordError(start)
    costs = []
    at = start
    for name, part in zip(names, parts):
        costs.append(_parsed_cost(name, part, at))
        at += len(part) + 1
    if not fit_together(scheme, costs):
        raise RecordError(start)
    return tuple(costs)


def _parsed_cost(name, part, at):
    sign = LETTERS[name] + "="
    digits = part.removeprefix(sign)
    if not part.startswith(sign) or len(digits) > MOST_COST_DIGITS or not is_number(digits):
        raise RecordError(at)
    if not is_cost(name, int(digits)):
        raise RecordError(at)
    return int(digits)


def _parsed_octets(text, least, most, at):
    try:
        octets = from_base64(text)
    except TextError:
        raise RecordError(at) from None
    if not least <= len(octets) <= most:
        raise RecordError(at)
    return octets


def make_record(scheme, costs, salt, size, password):
    """The text of the record for a password, with a tag of this size."""
    check_costs(scheme, costs)
    check_limited(salt, MOST_SALT, LEAST_SALT)
    check_between(size, LEAST_TAG, MOST_TAG)
    check_octets(password)
    return record_text(scheme, costs, salt, output(scheme, costs, salt, size, password))


def fits_record(record, password):
    """True if the password is right for a record."""
    scheme, costs, salt, tag = record
    return same_octets(output(scheme, costs, salt, len(tag), password), tag)


def check_password(text, password):
    """True if the password is right for the record of a text."""
    record = parse_record(text)
    check_octets(password)
    return fits_record(record, password)


def check_policy(policy):
    """Raise the errors for a policy."""
    scheme, costs, salt_size, tag_size = policy
    check_costs(scheme, costs)
    check_between(salt_size, LEAST_SALT, MOST_SALT)
    check_between(tag_size, LEAST_TAG, MOST_TAG)


def falls_short(record, policy):
    """True if a record is weaker than a policy."""
    scheme, costs, salt, tag = record
    wanted_scheme, wanted_costs, salt_size, tag_size = policy
    if scheme != wanted_scheme or len(salt) < salt_size or len(tag) < tag_size:
        return True
    return any([value < wanted for value, wanted in zip(costs, wanted_costs)])


def is_weaker(text, policy):
    """True if the record of a text is weaker than a policy."""
    check_policy(policy)
    return falls_short(parse_record(text), policy)


def renewed_costs(record, policy):
    """The costs of a policy, or the greater ones of a record if they can be taken."""
    scheme, costs, _, _ = record
    wanted_scheme, wanted_costs, _, _ = policy
    if scheme != wanted_scheme:
        return wanted_costs
    greater = tuple([max(value, wanted) for value, wanted in zip(costs, wanted_costs)])
    return greater if fit_together(scheme, greater) else wanted_costs


def renew(text, password, policy, salt):
    """The text of a record for the password that is not weaker than the policy; None if it is wrong."""
    check_policy(policy)
    record = parse_record(text)
    check_octets(password)
    scheme, _, salt_size, tag_size = policy
    check_limited(salt, MOST_SALT, salt_size)
    if not fits_record(record, password):
        return None
    if not falls_short(record, policy):
        return text
    return make_record(scheme, renewed_costs(record, policy), salt, tag_size, password)


def sub_key(text, password, label, size):
    """The key for a label, which a right password gives; None if it is wrong."""
    check_size(size)
    check_limited(label, MOST_LABEL)
    record = parse_record(text)
    check_octets(password)
    if not fits_record(record, password):
        return None
    scheme, costs, salt, _ = record
    main = output(scheme, costs, salt + from_ascii("sub"), MAIN_KEY_SIZE, password)
    return hkdf_expand("sha256", main, label, size)
