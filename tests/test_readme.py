import doctest
import pathlib
import unittest

README = pathlib.Path(__file__).resolve().parent.parent / "README.md"


class Readme(unittest.TestCase):
    def test_examples(self):
        # The fence behind an example would else count as the last line of what it prints.
        text = README.read_text(encoding="utf-8").replace("```", "")
        examples = doctest.DocTestParser().get_doctest(text, {}, "README", str(README), 0)
        self.assertGreater(len(examples.examples), 8)
        failed, _ = doctest.DocTestRunner().run(examples)
        self.assertEqual(failed, 0)
