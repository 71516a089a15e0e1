"""Nothing is computed that is not needed: compressions are counted."""

import unittest
from unittest import mock

from saltmill.codes import Keyed, hmac, restore_keyed
from saltmill.compressing import Compressor
from saltmill.expansion import Reader, counter_kdf, restore_reader
from saltmill.stretching import Stretcher, pbkdf2, restore_stretcher
from tests.common import BLOCKS, NAMES, SIZES
from tests.derivations import SCHEMES, STRINGS
from tests.test_expansion import FUNCTIONS

COMPRESS = Compressor.compress


def compressions(action, *arguments):
    """What an action returns, and how many blocks are compressed for it."""
    calls = []

    def counted(compressor, chain, block):
        calls.append(block)
        return COMPRESS(compressor, chain, block)
    with mock.patch.object(Compressor, "compress", counted):
        result = action(*arguments)
    return result, len(calls)


class WorkTest(unittest.TestCase):
    def test_a_key_is_absorbed_once(self):
        for name in NAMES:
            machine, many = compressions(Keyed, name, (1,) * BLOCKS[name])
            self.assertEqual(many, 2)
            twin, many = compressions(machine.fork)
            self.assertEqual(many, 0)
            restored, many = compressions(restore_keyed, machine.save())
            self.assertEqual(many, 0)
            for one in (machine, twin, restored):
                tag, many = compressions(one.finish)
                self.assertEqual((tag, many), (hmac(name, (1,) * BLOCKS[name], ()), 2))

    def test_outputs_have_the_blocks_that_are_needed(self):
        for scheme in SCHEMES:
            for name in NAMES:
                block, strings = SIZES[name], STRINGS[scheme]
                one, more, same, next_one = [
                    compressions(FUNCTIONS[scheme], name, *strings, size)[1]
                    for size in (block, block + 1, 2 * block, 2 * block + 1)]
                self.assertGreater(more, one)
                self.assertEqual(same, more)
                self.assertGreater(next_one, same)

    def test_a_reader_makes_a_block_when_it_is_read(self):
        for scheme in SCHEMES:
            for name in NAMES:
                reader = Reader((scheme, name, *STRINGS[scheme], 3 * SIZES[name]))
                for count, needed in ((0, False), (1, True), (SIZES[name] - 1, False), (0, False),
                                      (1, True), (SIZES[name] - 1, False), (1, True), (4096, False)):
                    reader = restore_reader(reader.save())
                    _, many = compressions(reader.read, count)
                    self.assertEqual(many > 0, needed, (scheme, name, count))

    def test_plain_and_pieces_do_the_same_work(self):
        name, strings = "sha256", STRINGS["counter"]
        _, plain = compressions(counter_kdf, name, *strings, 100)
        reader, before = compressions(Reader, ("counter", name, *strings, 100))
        self.assertEqual(before + compressions(reader.read, 100)[1], plain)

    def test_steps(self):
        for name in NAMES:
            machine, many = compressions(Stretcher, name, (1,), (2,), 5, 2 * SIZES[name])
            self.assertEqual(many, 2)
            for count in (1, 3, 4, 2):
                machine, many = compressions(restore_stretcher, machine.save())
                self.assertEqual(many, 0)
                done, many = compressions(machine.run, count)
                self.assertEqual((done, many), (count, 2 * count))
            self.assertEqual(compressions(machine.read, 4096)[1], 0)
            self.assertEqual(compressions(pbkdf2, name, (1,), (2,), 5, 2 * SIZES[name])[1], 2 + 20)


if __name__ == "__main__":
    unittest.main()
