"""That .ci/run runs every test, and that each of them can fail the run."""

import os
import pathlib
import shutil
import subprocess
import tempfile
import unittest

HERE = pathlib.Path(__file__).resolve().parent.parent

GOOD = """\
import unittest
from rowsight.rows import front

class T(unittest.TestCase):
    def test_it(self):
        self.assertEqual(front([1, 2]), [0, 1])
"""
BAD = GOOD.replace("[0, 1]", "[1, 0]")


class CiRun(unittest.TestCase):
    def setUp(self):
        folder = tempfile.TemporaryDirectory()
        self.addCleanup(folder.cleanup)
        self.top = pathlib.Path(folder.name)
        shutil.copytree(HERE / "rowsight", self.top / "main" / "rowsight")
        shutil.copytree(HERE / ".ci", self.top / "main" / ".ci")
        self.lay("main/tests/test_own.py", GOOD)
        self.lay("shared/tests/README.md", "Tests.\n")

    def lay(self, name, text):
        path = self.top / name
        path.parent.mkdir(parents=True, exist_ok=True)
        path.write_text(text)

    def run_ci(self):
        # Started elsewhere, so that the script must find its own place.
        done = subprocess.run(
            ["bash", str(self.top / "main" / ".ci" / "run")],
            cwd=self.top, env=dict(os.environ), stdin=subprocess.DEVNULL,
            stdout=subprocess.PIPE, stderr=subprocess.STDOUT, text=True,
        )
        return done.returncode, done.stdout

    def check_passes(self, files):
        status, said = self.run_ci()
        self.assertEqual(status, 0, said)
        self.assertIn(f"\n{files} passed, 0 failed\n", said)

    def check_fails(self):
        status, said = self.run_ci()
        self.assertNotEqual(status, 0, said)
        self.assertIn("FAILED", said)

    def test_no_shared_test_is_no_failure(self):
        self.check_passes(1)

    def test_shared_tests_are_run(self):
        self.lay("shared/tests/test_one.py", GOOD)
        self.lay("shared/tests/deeper/test_two.py", GOOD)
        self.check_passes(3)

    def test_own_test_can_fail_the_run(self):
        self.lay("main/tests/test_bad.py", BAD)
        self.check_fails()

    def test_shared_test_can_fail_the_run(self):
        self.lay("shared/tests/test_a.py", BAD)
        self.lay("shared/tests/test_z.py", GOOD)
        self.check_fails()

    def test_shared_test_in_a_deeper_folder_can_fail_the_run(self):
        self.lay("shared/tests/deeper/test_a.py", BAD)
        self.check_fails()

    def test_shared_test_that_can_not_be_read_fails_the_run(self):
        self.lay("shared/tests/test_a.py", "import rowsight.no_such_file\n")
        self.check_fails()

    def test_shared_file_without_a_test_fails_the_run(self):
        self.lay("shared/tests/test_a.py", "NOTHING = 1\n")
        self.check_fails()

    def test_project_without_a_test_fails_the_run(self):
        (self.top / "main" / "tests" / "test_own.py").unlink()
        self.check_fails()

    def test_missing_shared_folder_fails_the_run(self):
        shutil.rmtree(self.top / "shared")
        self.check_fails()


if __name__ == "__main__":
    unittest.main()
