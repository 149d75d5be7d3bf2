"""Checks that .ci/run runs all tests and fails if one fails, on small projects made for the purpose."""

import os
import shutil
import subprocess
import tempfile
import unittest
from pathlib import Path

SCRIPT = Path(__file__).resolve().parent.parent / ".ci" / "run"
RIGHT = "import unittest\nclass A(unittest.TestCase):\n    def test_a(self):\n        self.assertEqual(1, 1)\n"
WRONG = RIGHT.replace("(1, 1)", "(1, 2)")
BROKEN = "import nowhere\n"
PACKAGE = "import unittest\nfrom p.q import N\nclass A(unittest.TestCase):\n    def test_a(self):\n        assert N == 1\n"


class RunTest(unittest.TestCase):
    def run_project(self, files):
        """The exit code and the output of .ci/run in a folder with these files, as CI calls it."""
        with tempfile.TemporaryDirectory() as folder:
            for name, text in files.items():
                path = Path(folder) / name
                path.parent.mkdir(parents=True, exist_ok=True)
                path.write_text(text)
            script = Path(folder) / "main" / ".ci" / "run"
            script.parent.mkdir(parents=True, exist_ok=True)
            shutil.copy(SCRIPT, script)
            named = {key: value for key, value in os.environ.items() if key != "PYTHONPATH"}
            done = subprocess.run(
                ["bash", ".ci/run"],
                cwd=script.parent.parent,
                env=named,
                stdin=subprocess.DEVNULL,
                capture_output=True,
                text=True,
            )
            return done.returncode, done.stdout + done.stderr

    def check(self, wanted, files):
        code, told = self.run_project(files)
        self.assertEqual(code, wanted, told)
        return told

    def test_all_tests_pass(self):
        told = self.check(0, {"main/tests/test_a.py": RIGHT})
        self.assertIn("files: 1 passed, 0 failed", told)
        files = {"main/tests/test_a.py": RIGHT, "shared/tests/test_b.py": RIGHT, "shared/tests/low/test_c.py": RIGHT}
        self.assertIn("files: 3 passed, 0 failed", self.check(0, files))

    def test_a_folder_of_shared_tests_without_a_test(self):
        self.check(0, {"main/tests/test_a.py": RIGHT, "shared/tests/README.md": "none\n"})

    def test_one_fails(self):
        for text in [WRONG, BROKEN]:
            told = self.check(1, {"main/tests/test_a.py": text, "main/tests/test_b.py": RIGHT})
            self.assertIn("files: 1 passed, 1 failed", told)
            self.check(1, {"main/tests/test_a.py": RIGHT, "main/tests/test_b.py": text})
            self.check(1, {"main/tests/test_a.py": RIGHT, "shared/tests/test_b.py": text})

    def test_a_project_without_tests_fails(self):
        self.check(1, {"shared/tests/test_b.py": RIGHT})
        self.check(1, {"main/tests/support.py": RIGHT})

    def test_the_package_is_imported_by_its_name(self):
        package = {"main/p/__init__.py": "", "main/p/q.py": "N = 1\n"}
        self.check(0, {**package, "main/tests/test_a.py": PACKAGE, "shared/tests/test_b.py": PACKAGE})


if __name__ == "__main__":
    unittest.main()
