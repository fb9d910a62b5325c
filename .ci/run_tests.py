"""Runs every file test_*.py of the project and under ../shared/tests, and tells how many tests were run."""

import os
import re
import subprocess
import sys
from pathlib import Path

ROOT = Path(__file__).resolve().parent.parent
SHARED = ROOT.parent / "shared" / "tests"


def test_folders(top):
    if not top.is_dir():
        return []
    return sorted({found.parent for found in top.rglob("test_*.py")})


def run_folder(folder):
    """Runs the tests right in one folder; returns how many were run, and whether all of them passed."""
    # Each folder has a process of its own: files of one name in two folders would be taken for one module.
    done = subprocess.run(
        [sys.executable, "-m", "unittest", "discover", "-s", str(folder), "-t", str(folder), "-p", "test_*.py"],
        cwd=ROOT,
        env={**os.environ, "PYTHONPATH": str(ROOT)},
        stdout=subprocess.PIPE,
        stderr=subprocess.STDOUT,
        text=True,
    )
    print(f"== {folder}")
    print(done.stdout, end="", flush=True)
    told = re.findall(r"^Ran (\d+) tests? in", done.stdout, re.MULTILINE)
    many = int(told[-1]) if told else 0
    # Newer Pythons end with 5 where no test is found; a file without a test is no test that fails.
    return many, done.returncode == 0 or (done.returncode == 5 and many == 0)


def run_folders(folders):
    """Runs the tests of all folders; returns how many were run, and the folders in which one failed."""
    many, failed = 0, []
    for folder in folders:
        run, passed = run_folder(folder)
        many += run
        if not passed:
            failed.append(folder)
    return many, failed


def main():
    own, failed = run_folders(test_folders(ROOT / "tests"))
    shared, failed_there = run_folders(test_folders(SHARED))
    print(f"{own + shared} tests were run: {own} of the project, {shared} under ../shared/tests.")
    for folder in failed + failed_there:
        print(f"FAILED: {folder}")
    if own == 0:
        print("FAILED: the project has no tests")
    return 1 if own == 0 or failed or failed_there else 0


if __name__ == "__main__":
    sys.exit(main())
