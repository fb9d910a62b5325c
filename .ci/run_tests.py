"""Runs every file test_*.py of the project and under ../shared/tests, and tells how many tests were run."""

import os
import re
import subprocess
import sys
from pathlib import Path

ROOT = Path(__file__).resolve().parent.parent
SHARED = ROOT.parent / "shared" / "tests"


def test_folders(top):
    if not top.is_dir():
        return []
    return sorted({found.parent for found in top.rglob("test_*.py")})


def run_folder(folder):
    """Runs the tests right in one folder; returns how many were run, and whether all of them passed."""
    # Each folder has a process of its own: files of one name in two folders would be taken for one module.
    done = subprocess.run(
        [sys.executable, "-m", "unittest", "discover", "-s", str(folder), "-t", str(folder), "-p", "test_*.py"],
        cwd=ROOT,
        env={**os.environ, "PYTHONPATH": str(ROOT)},
        stdout=subprocess.PIPE,
        stderr=subprocess.STDOUT,
        text=True,
    )
    print(f"== {folder}")
    print(done.stdout, end="", flush=True)
    told = re.findall(r"^Ran (\d+) tests? in", done.stdout, re.MULTILINE)
    return (int(told[-1]) if told else 0), done.returncode == 0


def main():
    folders = test_folders(ROOT / "tests")
    if not folders:
        print("The project has no tests.")
        return 1
    many, failed = 0, []
    for folder in folders + test_folders(SHARED):
        run, passed = run_folder(folder)
        many += run
        # Files of tests in which no test is found are a fault, too, whatever unittest says of it.
        if not passed or run == 0:
            failed.append(folder)
    print(f"{many} tests were run in all.")
    for folder in failed:
        print(f"FAILED: {folder}")
    return 1 if failed else 0


if __name__ == "__main__":
    sys.exit(main())
