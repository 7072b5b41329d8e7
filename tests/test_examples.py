"""Every example of the sections of DOC.md that have landed, as it stands there."""

import doctest
import os
import unittest

HERE = os.path.dirname(os.path.abspath(__file__))


class ExamplesTest(unittest.TestCase):
    def test_examples(self):
        with open(os.path.join(HERE, "examples.txt"), encoding="utf-8") as told:
            test = doctest.DocTestParser().get_doctest(told.read(), {}, "examples.txt", "examples.txt", 0)
        self.assertGreater(len(test.examples), 180)
        runner = doctest.DocTestRunner(verbose=False)
        said = []
        result = runner.run(test, out=said.append)
        self.assertEqual(result.failed, 0, "".join(said))

    def test_examples_of_the_readme(self):
        result = doctest.testfile(os.path.join(HERE, "..", "README.md"), module_relative=False, verbose=False)
        self.assertGreater(result.attempted, 5)
        self.assertEqual(result.failed, 0)

    def test_examples_are_those_of_the_document(self):
        path = os.path.join(HERE, "..", "..", "shared", "DOC.md")
        if not os.path.exists(path):
            self.skipTest("the document is not here")
        with open(path, encoding="utf-8") as told:
            document = told.read()
        with open(os.path.join(HERE, "examples.txt"), encoding="utf-8") as told:
            blocks = told.read().split("\n\n")
        for block in blocks:
            if block.startswith(">>>"):
                self.assertIn(block.rstrip("\n"), document)


if __name__ == "__main__":
    unittest.main()
