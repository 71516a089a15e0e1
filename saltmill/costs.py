"""The costs of derivations from passwords, by their names, and the ranges that they have everywhere."""

from saltmill.errors import CostError

# The least and the greatest value of each cost that has them whatever the other costs are.
RANGES = {
    "rounds": (1, 1000000), "n": (2, 65536), "r": (1, 8), "p": (1, 8),
    "passes": (1, 16), "lanes": (1, 8),
}
MOST_MEMORY = 4096
LEAST_OF_A_LANE = 8
MOST_PRODUCT = 65536


def is_integer(value):
    """True if the value is an integer; a boolean is none."""
    return isinstance(value, int) and not isinstance(value, bool)


def is_cost(name, value):
    """True if the value may be the cost of this name, whatever the other costs are."""
    if not is_integer(value):
        return False
    if name == "memory":
        # How small it may be depends on the lanes.
        return value <= MOST_MEMORY
    least, most = RANGES[name]
    if not least <= value <= most:
        return False
    return name != "n" or value & (value - 1) == 0


def check_cost(name, value):
    """Raise CostError if the value may not be the cost of this name."""
    if not is_cost(name, value):
        raise CostError()


def check_gap(gap, n):
    """Raise CostError if rows cannot be kept at this distance."""
    if not is_integer(gap) or not 1 <= gap <= n:
        raise CostError()


def fit_product(n, r):
    """True if n and r, each of them right, are right together."""
    return n * r <= MOST_PRODUCT


def fit_memory(memory, lanes):
    """True if the memory is enough for the lanes."""
    return memory >= LEAST_OF_A_LANE * lanes


def check_product(n, r):
    """Raise CostError if n and r, each of them right, are too great together."""
    if not fit_product(n, r):
        raise CostError()


def check_memory(memory, lanes):
    """Raise CostError if the memory is too small for the lanes."""
    if not fit_memory(memory, lanes):
        raise CostError()


def choices_of_n(r):
    """The numbers n that are right beside this r, in ascending order."""
    least, most = RANGES["n"]
    choices = []
    n = least
    while n <= most and fit_product(n, r):
        choices.append(n)
        n = 2 * n
    return choices


def most_r(n):
    """The greatest r that is right beside this n."""
    return min(RANGES["r"][1], MOST_PRODUCT // n)


def most_lanes(memory):
    """The greatest number of lanes for which the memory is enough; 0 if it is for none."""
    return min(RANGES["lanes"][1], memory // LEAST_OF_A_LANE)
