import unittest

from samples import ROOT, run_example


class Readme(unittest.TestCase):
    def test_examples(self):
        run_example(self, (ROOT / "README.md").read_text(encoding="utf-8"))


if __name__ == "__main__":
    unittest.main()
