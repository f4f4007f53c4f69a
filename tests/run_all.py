"""Runs each test file beside this one and under ../shared/tests, and tells how many tests passed."""

import os
import subprocess
import sys
import unittest

HERE = os.path.dirname(os.path.abspath(__file__))
ROOT = os.path.dirname(HERE)
SHARED = os.path.join(os.path.dirname(ROOT), "shared", "tests")


def test_files(folder):
    """The test files in a folder and in those within it, in the order of their paths."""
    found = []
    for path, _, names in os.walk(folder):
        found += [os.path.join(path, name) for name in names
                  if name.startswith("test_") and name.endswith(".py")]
    return sorted(found)


def run_one(path):
    """Runs the tests of one file in this process: how many passed, failed and were left out."""
    folder, name = os.path.split(path)
    suite = unittest.defaultTestLoader.discover(folder, pattern=name)
    told = unittest.TextTestRunner(verbosity=1).run(suite)
    failed = len(told.failures) + len(told.errors) + len(told.unexpectedSuccesses)
    return told.testsRun - failed - len(told.skipped), failed, len(told.skipped)


def run_apart(path):
    """Runs one file in a process of its own: files of one name in two folders don't meet."""
    environment = dict(os.environ, PYTHONPATH=ROOT, PYTHONDONTWRITEBYTECODE="1")
    done = subprocess.run([sys.executable, os.path.abspath(__file__), path], cwd=ROOT, text=True,
                          env=environment, stdout=subprocess.PIPE)
    words = done.stdout.split()
    if done.returncode or len(words) < 3:
        return 0, 1, 0
    passed, failed, skipped = (int(word) for word in words[-3:])
    return max(0, passed), failed, skipped


def main():
    if len(sys.argv) > 1:
        print(*run_one(sys.argv[1]))
        return 0
    totals = [0, 0, 0]
    for path in test_files(HERE) + test_files(SHARED):
        print(os.path.relpath(path, ROOT), file=sys.stderr, flush=True)
        totals = [one + more for one, more in zip(totals, run_apart(path))]
    skipped = f", {totals[2]} skipped" if totals[2] else ""
    print(f"{totals[0]} passed, {totals[1]} failed{skipped}", flush=True)
    return 1 if totals[1] or not totals[0] else 0


if __name__ == "__main__":
    sys.exit(main())
