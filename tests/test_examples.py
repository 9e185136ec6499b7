"""The examples of the document, to the letter."""

import doctest
import os
import unittest

HERE = os.path.dirname(os.path.abspath(__file__))
DOCUMENT = os.path.join(HERE, "..", "..", "shared", "DOC.md")
EXAMPLES = [f"point_{number}.txt" for number in range(4, 16)]


def example_in(name):
    with open(os.path.join(HERE, "examples", name), encoding="utf-8") as file:
        return file.read()


class Examples(unittest.TestCase):
    def test_each_example_does_as_told(self):
        for name in EXAMPLES:
            found = doctest.DocTestParser().get_doctest(example_in(name), {}, name, name, 0)
            self.assertGreater(len(found.examples), 5)
            report = []
            result = doctest.DocTestRunner().run(found, out=report.append)
            self.assertEqual((result.failed, result.attempted), (0, len(found.examples)), "".join(report))

    def test_each_example_is_that_of_the_document(self):
        if not os.path.exists(DOCUMENT):
            self.skipTest("the document is not here")
        with open(DOCUMENT, encoding="utf-8") as file:
            text = file.read()
        for name in EXAMPLES:
            self.assertIn("```\n" + example_in(name) + "```\n", text)


if __name__ == "__main__":
    unittest.main()
