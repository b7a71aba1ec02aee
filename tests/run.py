"""Runs the tests of one folder: python3 tests/run.py FOLDER. Fails if a test fails, or if there is none."""
import os
import sys
import unittest


def main():
    folder = os.path.abspath(sys.argv[1])
    # the folder of this script must not hide modules of another folder
    sys.path[0] = os.path.dirname(os.path.dirname(os.path.abspath(__file__)))
    suite = unittest.defaultTestLoader.discover(folder, pattern="test_*.py", top_level_dir=folder)
    result = unittest.TextTestRunner(stream=sys.stdout, verbosity=1).run(suite)
    failed = len({test.id().split(" ")[0] for test, _ in result.failures + result.errors})
    failed += len(result.unexpectedSuccesses)
    print(f"{max(0, result.testsRun - len(result.skipped) - failed)} passed, {failed} failed", flush=True)
    if result.testsRun == len(result.skipped):
        print("no test was run in " + folder)
        return 1
    return 0 if result.wasSuccessful() else 1


if __name__ == "__main__":
    sys.exit(main())
