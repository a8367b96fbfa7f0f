"""Runs each test file in a process of its own; the last line tells how many passed and failed.

    python3 tests/run_tests.py             all tests of tests/ and of ../shared/tests
    python3 tests/run_tests.py --one FILE  those of one file
"""

import concurrent.futures
import os
import subprocess
import sys
import unittest

ROOT = os.path.dirname(os.path.dirname(os.path.abspath(__file__)))
FOLDERS = (os.path.join(ROOT, "tests"), os.path.join(os.path.dirname(ROOT), "shared", "tests"))
MARK = "counted:"


class Counted(unittest.TextTestResult):
    """A result that knows which tests failed, each once, whatever failed in it."""

    def __init__(self, *args, **more):
        super().__init__(*args, **more)
        self.fallen = set()

    def addError(self, test, err):
        super().addError(test, err)
        self.fallen.add(str(test))

    def addFailure(self, test, err):
        super().addFailure(test, err)
        self.fallen.add(str(test))

    def addSubTest(self, test, subtest, err):
        super().addSubTest(test, subtest, err)
        if err is not None:
            self.fallen.add(str(test))

    def addUnexpectedSuccess(self, test):
        super().addUnexpectedSuccess(test)
        self.fallen.add(str(test))


def test_files():
    """The paths of all test files, in order."""
    found = []
    for folder in FOLDERS:
        for where, _, names in sorted(os.walk(folder)):
            found += [os.path.join(where, name) for name in sorted(names)
                      if name.startswith("test_") and name.endswith(".py")]
    return found


def run_here(path):
    """Runs one file, tells what fails, and as the last line how many passed and failed."""
    sys.path.insert(0, ROOT)
    sys.path.insert(0, os.path.dirname(path))
    os.chdir(ROOT)
    name = os.path.basename(path)[:-3]
    suite = unittest.defaultTestLoader.loadTestsFromName(name)
    runner = unittest.TextTestRunner(stream=sys.stdout, resultclass=Counted)
    result = runner.run(suite)
    # What fails while a class or a module is set up is no test that was run.
    passed = max(0, result.testsRun - len(result.fallen))
    print(MARK, passed, len(result.fallen))


def run_apart(path):
    """Runs one file in a process of its own: (passed, failed, what it told)."""
    done = subprocess.run([sys.executable, "-B", os.path.abspath(__file__), "--one", path],
                          stdout=subprocess.PIPE, stderr=subprocess.STDOUT, cwd=ROOT)
    told = done.stdout.decode("utf-8", "replace").rstrip().split("\n")
    words = told[-1].split(" ")
    if done.returncode != 0 or words[0] != MARK:
        return 0, 1, "\n".join(told)
    return int(words[1]), int(words[2]), "\n".join(told[:-1])


def run_all():
    """Runs all files, some at a time; returns whether there are tests and all of them passed."""
    paths = test_files()
    passed, failed = 0, 0
    with concurrent.futures.ThreadPoolExecutor(os.cpu_count() or 1) as pool:
        for path, (good, bad, told) in zip(paths, pool.map(run_apart, paths)):
            print(f"{os.path.relpath(path, ROOT)}: {good} passed, {bad} failed")
            if bad:
                print(told)
            passed += good
            failed += bad
    print(f"{passed} passed, {failed} failed", flush=True)
    return failed == 0 and passed > 0


if __name__ == "__main__":
    if sys.argv[1:2] == ["--one"]:
        run_here(os.path.abspath(sys.argv[2]))
    else:
        sys.exit(0 if run_all() else 1)
