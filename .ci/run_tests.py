"""Run the project's tests and the shared ones, and end with a line that counts them.

Without an argument: all folders of tests. With two: the tests of one folder, and
the folder from which their module names are told.
"""

import pathlib
import re
import subprocess
import sys
import unittest

ROOT = pathlib.Path(__file__).resolve().parent.parent
OWN = ROOT / "tests"
SHARED = ROOT.parent / "shared" / "tests"


class CountingResult(unittest.TextTestResult):
    passed = 0

    def addSuccess(self, test):
        super().addSuccess(test)
        self.passed += 1


def run_here(folder, top):
    """Run the tests of one folder in this process; True if there are some and all pass."""
    # The program is found before anything that a folder of tests may bring.
    sys.path.insert(0, str(ROOT))
    suite = unittest.TestLoader().discover(folder, pattern="test_*.py", top_level_dir=top)
    result = unittest.TextTestRunner(resultclass=CountingResult).run(suite)
    failed = len(result.failures) + len(result.errors) + len(result.unexpectedSuccesses)
    sys.stderr.flush()
    print(f"{result.passed} passed, {failed} failed", flush=True)
    return failed == 0 and result.passed > 0


def run_folder(folder, top):
    """Run one folder in a process of its own; tell how many passed and failed, and if it is right.

    Two folders may have files of the same name, which one process would mix up.
    """
    command = [sys.executable, "-B", __file__, str(folder), str(top)]
    done = subprocess.run(command, cwd=ROOT, stdout=subprocess.PIPE, text=True)
    print(done.stdout, end="", flush=True)
    counts = re.findall(r"^(\d+) passed, (\d+) failed$", done.stdout, re.MULTILINE)
    passed, failed = (int(count) for count in counts[-1]) if counts else (0, 1)
    return passed, failed, done.returncode == 0


def run_all():
    """Run all folders and print the closing line; True if all is right."""
    rows = [run_folder(OWN, ROOT)]
    if any(SHARED.glob("test_*.py")):
        rows.append(run_folder(SHARED, SHARED))
    passed = sum(row[0] for row in rows)
    failed = sum(row[1] for row in rows)
    print(f"total: {passed} passed, {failed} failed", flush=True)
    return all(row[2] for row in rows)


if __name__ == "__main__":
    right = run_here(*sys.argv[1:]) if len(sys.argv) > 1 else run_all()
    sys.exit(0 if right else 1)
