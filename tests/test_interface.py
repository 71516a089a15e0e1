"""Every name of the interface stands, with its arguments, in the file that lists it."""

import ast
import unittest
from pathlib import Path

PACKAGE = Path(__file__).resolve().parent.parent / "saltmill"

FUNCTIONS = {
    "octets.py": {
        "is_octets": ["value"],
        "to_hex": ["octets"], "to_base64": ["octets"],
        "from_hex": ["text"], "from_base64": ["text"], "from_ascii": ["text"],
        "big": ["number", "size"], "little": ["number", "size"],
        "from_big": ["octets"], "from_little": ["octets"],
        "xor": ["first", "second"], "same_octets": ["first", "second"],
    },
    "digests.py": {
        "block_length": ["name"], "digest_size": ["name"], "first_chain": ["name"],
        "compress": ["name", "chain", "block"], "digest": ["name", "octets"],
        "restore_digest": ["text"],
    },
}
METHODS = {
    ("errors.py", "TextError"): {"__init__": ["self", "at"]},
    ("errors.py", "StateError"): {"__init__": ["self", "at"]},
    ("errors.py", "RecordError"): {"__init__": ["self", "at"]},
    ("digests.py", "Digest"): {
        "__init__": ["self", "name"], "update": ["self", "octets"], "finish": ["self"],
        "fork": ["self"], "save": ["self"], "name": ["self"], "length": ["self"],
    },
}
CLASSES = {
    "errors.py": ["SaltmillError", "OctetError", "TextError", "ChoiceError", "LengthError",
                  "CostError", "OrderError", "StateError", "RecordError"],
    "digests.py": ["Digest"],
}


def body(file_name):
    return ast.parse((PACKAGE / file_name).read_text(encoding="utf-8")).body


def functions(rows):
    return {row.name: [argument.arg for argument in row.args.args]
            for row in rows if isinstance(row, ast.FunctionDef)}


def classes(file_name):
    return {row.name: row for row in body(file_name) if isinstance(row, ast.ClassDef)}


class InterfaceTest(unittest.TestCase):
    def test_functions(self):
        for file_name, listed in FUNCTIONS.items():
            defined = functions(body(file_name))
            for name, arguments in listed.items():
                self.assertEqual(defined.get(name), arguments, (file_name, name))

    def test_classes(self):
        for file_name, listed in CLASSES.items():
            for name in listed:
                self.assertIn(name, classes(file_name))

    def test_methods(self):
        for (file_name, class_name), listed in METHODS.items():
            defined = functions(classes(file_name)[class_name].body)
            for name, arguments in listed.items():
                self.assertEqual(defined.get(name), arguments, (class_name, name))


if __name__ == "__main__":
    unittest.main()
