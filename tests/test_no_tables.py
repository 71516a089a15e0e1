"""The words that the program computes by a rule stand nowhere in its files."""

import ast
import unittest
from pathlib import Path

from saltmill.digests import first_chain

PACKAGE = Path(__file__).resolve().parent.parent / "saltmill"


def primes(count):
    found = []
    number = 2
    while len(found) < count:
        if all(number % prime for prime in found):
            found.append(number)
        number += 1
    return found


def cube_root_words():
    """The round constants of 64 bits, found bit by bit."""
    words = []
    for prime in primes(80):
        root = 0
        for bit in range(70, -1, -1):
            if (root | (1 << bit)) ** 3 <= prime << 192:
                root |= 1 << bit
        words.append(root % 2 ** 64)
    return words


def computed_words():
    words = cube_root_words()
    for name in ("sha224", "sha256", "sha384", "sha512"):
        words += first_chain(name)
    return set(words + [word >> 32 for word in words])


class NoTablesTest(unittest.TestCase):
    def test_the_words_are_known(self):
        # 428a2f98 and 6a09e667 begin the tables that other programs have.
        self.assertIn(0x428a2f98, computed_words())
        self.assertIn(0x6a09e667, computed_words())

    def test_no_word_stands_in_the_program(self):
        barred = computed_words() - {0}
        texts = {f"{word:08x}" for word in barred} | {str(word) for word in barred}
        for path in PACKAGE.rglob("*.py"):
            text = path.read_text(encoding="utf-8")
            for node in ast.walk(ast.parse(text)):
                if isinstance(node, ast.Constant) and isinstance(node.value, int):
                    self.assertNotIn(node.value, barred, path)
            for word in texts:
                self.assertNotIn(word, text.lower(), path)


if __name__ == "__main__":
    unittest.main()
