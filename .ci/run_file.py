"""Runs the tests of one file and prints three numbers in the last line: passed, failed, skipped."""

import os
import sys
import unittest


class Counted(unittest.TextTestResult):
    """A result that also counts the tests that passed."""

    def __init__(self, *arguments, **named):
        super().__init__(*arguments, **named)
        self.passed = 0

    def addSuccess(self, test):
        super().addSuccess(test)
        self.passed += 1

    def addExpectedFailure(self, test, error):
        super().addExpectedFailure(test, error)
        self.passed += 1

    def failed(self):
        # Several parts of one test may fail; the test is counted once.
        bad = [test for test, _ in self.failures + self.errors] + self.unexpectedSuccesses
        return len({getattr(test, "test_case", test).id() for test in bad})


def main():
    folder, name = os.path.split(os.path.abspath(sys.argv[1]))
    sys.path[0] = os.getcwd()
    sys.path.insert(1, folder)
    suite = unittest.defaultTestLoader.loadTestsFromName(os.path.splitext(name)[0])
    result = unittest.TextTestRunner(stream=sys.stderr, resultclass=Counted).run(suite)
    print()
    print(result.passed, result.failed(), len(result.skipped))


main()
