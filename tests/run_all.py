"""Run every test of the project, then every test under ../shared/tests; end with 1 if one fails or none ran."""

import os
import pathlib
import subprocess
import sys
import unittest

ROOT = pathlib.Path(__file__).resolve().parent.parent
SHARED = ROOT.parent / "shared" / "tests"


def project_holds():
    # The project's modules are found from its own folder, wherever this is started from.
    os.chdir(ROOT)
    sys.path.insert(0, str(ROOT))
    suite = unittest.defaultTestLoader.discover(str(ROOT / "tests"), pattern="test_*.py", top_level_dir=str(ROOT))
    result = unittest.TextTestRunner(verbosity=1).run(suite)
    ran = result.testsRun - len(result.skipped)
    if ran < 1:
        print("no test of the project ran", file=sys.stderr)
    return result.wasSuccessful() and ran > 0


def shared_file_holds(path):
    # A process of its own, for a file there may have the name of one of the project's.
    folders = [str(ROOT), str(path.parent), str(SHARED)]
    settings = {**os.environ, "PYTHONPATH": os.pathsep.join(folders), "PYTHONDONTWRITEBYTECODE": "1"}
    print(f"shared: {path.name}", file=sys.stderr)
    ended = subprocess.run([sys.executable, "-m", "unittest", path.stem], cwd=path.parent, env=settings)
    return ended.returncode == 0


def main():
    held = project_holds()
    for path in sorted(SHARED.rglob("test_*.py")):
        held = shared_file_holds(path) and held
    return 0 if held else 1


if __name__ == "__main__":
    sys.exit(main())
