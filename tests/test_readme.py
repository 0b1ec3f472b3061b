import doctest
import os
import unittest

README = os.path.join(os.path.dirname(os.path.dirname(os.path.abspath(__file__))), "README.md")


class ReadmeTest(unittest.TestCase):
    def test_examples(self):
        with open(README, encoding="utf-8") as file:
            text = file.read()
        # The fences of the examples would be taken for a part of what is returned.
        text = "\n".join("" if line.startswith("```") else line for line in text.split("\n"))
        examples = doctest.DocTestParser().get_doctest(text, {}, "README.md", README, 0)
        self.assertTrue(len(examples.examples) > 5)
        self.assertEqual(doctest.DocTestRunner(verbose=False).run(examples).failed, 0)


if __name__ == "__main__":
    unittest.main()
