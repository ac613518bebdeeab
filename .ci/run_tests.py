"""Runs all tests, each folder in a process of its own, and tells how many passed and failed.

Two folders may have test files of one name, which a single process would mix up.
"""

import pathlib
import subprocess
import sys
import unittest

ROOT = pathlib.Path(__file__).resolve().parent.parent
SHARED = ROOT.parent / "shared" / "tests"


def run_folder(folder):
    """Runs the tests that stand straight in a folder; prints their count for the caller, fails if one fails."""
    sys.path.insert(0, str(ROOT))
    sys.path.insert(0, folder)
    loader = unittest.TestLoader()
    names = sorted(path.stem for path in pathlib.Path(folder).glob("test_*.py"))
    result = unittest.TextTestRunner().run(loader.loadTestsFromNames(names))
    failed = len(result.failures) + len(result.errors) + len(result.unexpectedSuccesses)
    print(result.testsRun, failed, len(result.skipped))


def counts_of(folder):
    """How many tests of a folder ran, failed and were skipped; a process that broke off counts as one failed."""
    print(f"tests in {folder}", flush=True)
    call = [sys.executable, "-B", __file__, str(folder)]
    done = subprocess.run(call, stdout=subprocess.PIPE, text=True, cwd=ROOT)
    lines = done.stdout.splitlines()
    if done.returncode != 0 or not lines:
        print(done.stdout)
        return (1, 1, 0)
    for line in lines[:-1]:
        print(line)
    return tuple(int(word) for word in lines[-1].split())


def main():
    folders = [ROOT / "tests"]
    folders.extend(sorted({path.parent for path in SHARED.rglob("test_*.py")}))
    counts = [counts_of(folder) for folder in folders]
    ran, failed, skipped = (sum(column) for column in zip(*counts))
    print(f"ran {ran} tests in {len(folders)} folders")
    print(f"{ran - failed - skipped} passed, {failed} failed, {skipped} skipped")
    return 1 if failed or counts[0][0] == 0 else 0


if __name__ == "__main__":
    if len(sys.argv) > 1:
        run_folder(sys.argv[1])
    else:
        sys.exit(main())
