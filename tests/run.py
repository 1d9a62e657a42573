"""Runs the files test_*.py of one folder, and prints how many of their tests passed and failed."""

import sys
import unittest
from pathlib import Path


def tests_of(folder):
    sys.path.insert(0, str(folder))
    loader = unittest.TestLoader()
    names = sorted(path.stem for path in folder.glob("test_*.py"))
    return unittest.TestSuite(loader.loadTestsFromName(name) for name in names)


def main(folder):
    result = unittest.TextTestRunner(stream=sys.stdout).run(tests_of(folder))
    # Each failed part of a test is listed on its own, with the test that it is a part of.
    listed = [test for test, _ in result.failures + result.errors] + result.unexpectedSuccesses
    failed = len({getattr(test, "test_case", test).id() for test in listed})
    passed = result.testsRun - failed - len(result.skipped)
    print(f"{passed} passed, {failed} failed, {len(result.skipped)} skipped", flush=True)
    # A folder in which nothing passed was most likely not read at all.
    return 0 if result.wasSuccessful() and passed > 0 else 1


if __name__ == "__main__":
    sys.exit(main(Path(sys.argv[1]).resolve()))
