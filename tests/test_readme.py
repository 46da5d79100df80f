import doctest
import unittest
from pathlib import Path

README = Path(__file__).resolve().parent.parent / "README.md"


class Readme(unittest.TestCase):
    def test_examples(self):
        text = README.read_text(encoding="ascii").replace("```\n", "\n")
        examples = doctest.DocTestParser().get_doctest(text, {}, "README.md", str(README), 0)
        self.assertGreater(len(examples.examples), 5)
        results = doctest.DocTestRunner(verbose=False).run(examples)
        self.assertEqual(results.failed, 0)


if __name__ == "__main__":
    unittest.main()
