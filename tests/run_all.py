"""Runs every file test_*.py below the given folders, each with `python3 -m unittest`.

The last line says how many files passed and how many failed. A failed file, or no
file at all in the first folder, makes the exit code 1.
"""

import subprocess
import sys
from pathlib import Path

# The exit code that later Pythons give if a file contains no test.
NO_TEST = 5


def test_files(folder):
    return sorted(Path(folder).rglob("test_*.py"))


def passes(path):
    print(f"== {path}", flush=True)
    words = ["discover", "-s", str(path.parent), "-t", str(path.parent), "-p", path.name]
    done = subprocess.run([sys.executable, "-m", "unittest"] + words,
                          stderr=subprocess.PIPE, text=True)
    print(done.stderr, flush=True)
    return done.returncode in (0, NO_TEST)


def main(folders):
    own = test_files(folders[0])
    if not own:
        print(f"no test in {folders[0]}")
    results = [passes(path) for path in own]
    for folder in folders[1:]:
        results += [passes(path) for path in test_files(folder)]
    print(f"{results.count(True)} passed, {results.count(False)} failed")
    return 0 if own and all(results) else 1


if __name__ == "__main__":
    sys.exit(main(sys.argv[1:]))
