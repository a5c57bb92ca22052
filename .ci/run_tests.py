"""Runs each test file in a process of its own, under each Python that is asked for and here."""

import os
import pathlib
import re
import subprocess
import sys

ROOT = pathlib.Path(__file__).resolve().parent.parent
OWN = ROOT / "tests"
SHARED = ROOT.parent / "shared" / "tests"
# unittest leaves with this code, from Python 3.12 on, where a file holds no test.
NO_TESTS = 5


def version_of(python):
    """The Python's own words about itself; None if it is not here."""
    try:
        asked = subprocess.run([python, "-c", "import sys; print(sys.version)"], capture_output=True, text=True)
    except OSError:
        return None
    return asked.stdout.strip() if asked.returncode == 0 else None


def pythons():
    """The Pythons to run under, each version once: python3, and 3.11 and 3.13 where they are here."""
    kept = pathlib.Path.home() / ".pyenv" / "versions"
    names = ["python3", "python3.11", "python3.13"]
    names += [str(path) for series in ("3.11", "3.13") for path in sorted(kept.glob(series + ".*/bin/python3"))]
    found = {}
    for name in names:
        version = version_of(name)
        if version is not None:
            found.setdefault(version.split()[0], name)
    return found


def test_files():
    own = sorted(OWN.rglob("test_*.py"))
    shared = sorted(SHARED.rglob("test_*.py")) if SHARED.is_dir() else []
    return own + shared


def run_file(python, path):
    """How many tests of the file ran, failed, and were skipped."""
    paths = [str(ROOT)] + [part for part in [os.environ.get("PYTHONPATH")] if part]
    done = subprocess.run(
        [python, "-B", "-m", "unittest", path.stem], cwd=path.parent, text=True, errors="replace",
        env=dict(os.environ, PYTHONPATH=os.pathsep.join(paths)), stdout=subprocess.PIPE, stderr=subprocess.STDOUT,
    )
    print(f"{path}\n{done.stdout}", flush=True)
    counts = re.findall(r"^Ran (\d+) tests? in ", done.stdout, re.MULTILINE)
    ran = sum(int(many) for many in counts)
    last = done.stdout.strip().split("\n")[-1]
    told = {word: int(many) for word, many in re.findall(r"([a-z][a-z ]*)=(\d+)", last)}
    failed = sum(told.get(word, 0) for word in ("failures", "errors", "unexpected successes"))
    whole = done.returncode == 0 or (done.returncode == NO_TESTS and ran == 0)
    if not whole or not counts:
        failed = max(failed, 1)
    return ran, failed, told.get("skipped", 0)


def main():
    total = [0, 0, 0]
    own = 0
    for version, python in pythons().items():
        here = [0, 0, 0]
        for path in test_files():
            counts = run_file(python, path)
            here = [one + two for one, two in zip(here, counts)]
            if OWN in path.parents:
                own += counts[0]
        print(f"Python {version}: {here[0]} tests ran, {here[1]} failed, {here[2]} skipped", flush=True)
        total = [one + two for one, two in zip(total, here)]
    ran, failed, skipped = total
    print(f"{max(ran - failed - skipped, 0)} passed, {failed} failed, {skipped} skipped", flush=True)
    return 1 if failed > 0 or own == 0 else 0


if __name__ == "__main__":
    sys.exit(main())
