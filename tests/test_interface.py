"""Every name of the interface stands, with its arguments, in the file that lists it."""

import ast
import unittest
from pathlib import Path

PACKAGE = Path(__file__).resolve().parent.parent / "saltmill"

FUNCTIONS = {
    "octets.py": {
        "is_octets": ["value"],
        "to_hex": ["octets"], "to_base64": ["octets"],
        "from_hex": ["text"], "from_base64": ["text"], "from_ascii": ["text"],
        "big": ["number", "size"], "little": ["number", "size"],
        "from_big": ["octets"], "from_little": ["octets"],
        "xor": ["first", "second"], "same_octets": ["first", "second"],
    },
    "digests.py": {
        "block_length": ["name"], "digest_size": ["name"], "first_chain": ["name"],
        "compress": ["name", "chain", "block"], "digest": ["name", "octets"],
        "restore_digest": ["text"],
    },
    "blake.py": {
        "compress": ["state", "words", "count", "last"],
        "blake2b": ["octets", "*", "size=64", "key=()"],
        "restore_blake": ["text"],
    },
    "codes.py": {
        "hmac": ["name", "key", "octets"],
        "restore_keyed": ["text"],
    },
    "expansion.py": {
        "hkdf_extract": ["name", "salt", "material"],
        "hkdf_expand": ["name", "key", "info", "size"],
        "counter_kdf": ["name", "key", "label", "context", "size"],
        "feedback_kdf": ["name", "key", "iv", "label", "context", "size"],
        "pipeline_kdf": ["name", "key", "label", "context", "size"],
        "one_step_kdf": ["name", "secret", "info", "size"],
        "expand_label": ["name", "key", "label", "context", "size"],
        "restore_reader": ["text"],
    },
    "stretching.py": {
        "pbkdf2": ["name", "password", "salt", "rounds", "size"],
        "restore_stretcher": ["text"],
    },
    "mixing.py": {
        "salsa": ["words"], "block_mix": ["words"], "mix": ["words", "n"],
        "scrypt": ["password", "salt", "n", "r", "p", "size"],
        "restore_mixer": ["text"],
    },
    "filling.py": {
        "long_digest": ["octets", "size"], "join_blocks": ["first", "second"],
        "argon2": ["kind", "password", "salt", "secret", "data", "memory", "passes", "lanes", "size"],
        "restore_filler": ["text"],
    },
    "jobs.py": {
        "check_request": ["request"], "input_lengths": ["request"], "cost": ["request"],
        "held": ["request"], "derive": ["request", "inputs"], "restore_job": ["text"],
        "follow": ["request", "inputs", "deeds"],
    },
    "records.py": {
        "write_record": ["record"], "parse_record": ["text"],
        "make_record": ["scheme", "costs", "salt", "size", "password"],
        "check_password": ["text", "password"], "is_weaker": ["text", "policy"],
        "renew": ["text", "password", "policy", "salt"],
        "sub_key": ["text", "password", "label", "size"],
    },
}
METHODS = {
    ("errors.py", "TextError"): {"__init__": ["self", "at"]},
    ("errors.py", "StateError"): {"__init__": ["self", "at"]},
    ("errors.py", "RecordError"): {"__init__": ["self", "at"]},
    ("digests.py", "Digest"): {
        "__init__": ["self", "name"], "update": ["self", "octets"], "finish": ["self"],
        "fork": ["self"], "save": ["self"], "name": ["self"], "length": ["self"],
    },
    ("blake.py", "Blake"): {
        "__init__": ["self", "size=64", "key=()"], "update": ["self", "octets"], "finish": ["self"],
        "fork": ["self"], "save": ["self"], "taken": ["self"],
    },
    ("codes.py", "Keyed"): {
        "__init__": ["self", "name", "key"], "update": ["self", "octets"], "finish": ["self"],
        "fork": ["self"], "save": ["self"], "name": ["self"],
    },
    ("expansion.py", "Reader"): {
        "__init__": ["self", "request"], "read": ["self", "count"], "save": ["self"], "left": ["self"],
    },
    ("stretching.py", "Stretcher"): {
        "__init__": ["self", "name", "password", "salt", "rounds", "size"], "run": ["self", "count"],
        "read": ["self", "count"], "save": ["self"], "steps_left": ["self"], "ready": ["self"],
        "left": ["self"],
    },
    ("mixing.py", "Mixer"): {
        "__init__": ["self", "words", "n", "*", "gap=1"], "run": ["self", "count"], "result": ["self"],
        "save": ["self"], "steps": ["self"], "left": ["self"],
    },
    ("filling.py", "Filler"): {
        "__init__": ["self", "kind", "password", "salt", "secret", "data", "memory", "passes", "lanes",
                     "size"],
        "fill": ["self", "lane", "count"], "tag": ["self"], "save": ["self"], "steps": ["self"],
        "left": ["self"], "room": ["self", "lane"],
    },
    ("jobs.py", "Job"): {
        "__init__": ["self", "request"], "feed": ["self", "octets"], "run": ["self", "count"],
        "read": ["self", "count"], "save": ["self"], "missing": ["self"], "left": ["self"],
        "ready": ["self"], "unread": ["self"],
    },
}
CLASSES = {
    "errors.py": ["SaltmillError", "OctetError", "TextError", "ChoiceError", "LengthError",
                  "CostError", "OrderError", "StateError", "RecordError"],
    "digests.py": ["Digest"],
    "blake.py": ["Blake"],
    "codes.py": ["Keyed"],
    "expansion.py": ["Reader"],
    "stretching.py": ["Stretcher"],
    "mixing.py": ["Mixer"],
    "filling.py": ["Filler"],
    "jobs.py": ["Job"],
}
PROPERTIES = {
    ("digests.py", "Digest"): ["name", "length"],
    ("blake.py", "Blake"): ["taken"],
    ("codes.py", "Keyed"): ["name"],
    ("expansion.py", "Reader"): ["left"],
    ("stretching.py", "Stretcher"): ["steps_left", "ready", "left"],
    ("mixing.py", "Mixer"): ["steps", "left"],
    ("filling.py", "Filler"): ["steps", "left"],
    ("jobs.py", "Job"): ["missing", "left", "ready", "unread"],
}


def body(file_name):
    return ast.parse((PACKAGE / file_name).read_text(encoding="utf-8")).body


def parameters(arguments):
    """The parameters as the document writes them, without the spaces around a `=`."""
    return [word.replace(" ", "") for word in ast.unparse(arguments).split(", ") if word]


def functions(rows):
    return {row.name: parameters(row.args) for row in rows if isinstance(row, ast.FunctionDef)}


def properties(rows):
    return sorted(row.name for row in rows if isinstance(row, ast.FunctionDef)
                  and [ast.unparse(decorator) for decorator in row.decorator_list] == ["property"])


def classes(file_name):
    return {row.name: row for row in body(file_name) if isinstance(row, ast.ClassDef)}


class InterfaceTest(unittest.TestCase):
    def test_functions(self):
        for file_name, listed in FUNCTIONS.items():
            defined = functions(body(file_name))
            for name, arguments in listed.items():
                self.assertEqual(defined.get(name), arguments, (file_name, name))

    def test_classes(self):
        for file_name, listed in CLASSES.items():
            for name in listed:
                self.assertIn(name, classes(file_name))

    def test_methods(self):
        for (file_name, class_name), listed in METHODS.items():
            defined = functions(classes(file_name)[class_name].body)
            for name, arguments in listed.items():
                self.assertEqual(defined.get(name), arguments, (class_name, name))

    def test_properties(self):
        for (file_name, class_name), listed in PROPERTIES.items():
            rows = classes(file_name)[class_name].body
            self.assertEqual(properties(rows), sorted(listed), class_name)


if __name__ == "__main__":
    unittest.main()
