"""python3 run_tests.py FOLDER TOP: runs FOLDER/test_*.py; fails if one fails or none is run."""

import sys
import unittest


def main(folder, top):
    suite = unittest.TestLoader().discover(folder, pattern="test_*.py", top_level_dir=top)
    result = unittest.TextTestRunner().run(suite)
    bad = len(result.failures) + len(result.errors) + len(result.unexpectedSuccesses)
    skipped = len(result.skipped)
    passed = max(0, result.testsRun - bad - skipped)
    print(f"{passed} passed, {bad} failed, {skipped} skipped", flush=True)
    return 0 if result.wasSuccessful() and passed > 0 else 1


if __name__ == "__main__":
    sys.exit(main(sys.argv[1], sys.argv[2]))
