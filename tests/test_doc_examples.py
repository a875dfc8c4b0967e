"""The examples of the document, as written there, and those of README.md."""

import doctest
import pathlib
import unittest

README = pathlib.Path(__file__).parent.parent / "README.md"

SECTION_2 = """
>>> from fromwithin.houses import is_house
>>> [is_house((3, ((0, 1), (1, 2)))), is_house((3, ((0, 1), (0, 2), (1, 2))))]
[True, False]

>>> from fromwithin.houses import neighbors
>>> neighbors((4, ((0, 1), (1, 2), (2, 3))), 1)
(0, 2)

>>> from fromwithin.houses import path_between
>>> [path_between((4, ((0, 1), (1, 2), (2, 3))), 3, 1), path_between((3, ((0, 1),)), 0, 2)]
[(3, 2, 1), None]

>>> from fromwithin.houses import rooms_beyond
>>> rooms_beyond((4, ((0, 1), (1, 2), (2, 3))), 1, 2)
(2, 3)

>>> from fromwithin.houses import components
>>> components((4, ((0, 1), (1, 2), (2, 3))), (0, 2, 3))
((0,), (2, 3))
"""


class DocExamplesTest(unittest.TestCase):
    def check_examples(self, text, calls):
        examples = doctest.DocTestParser().get_doctest(text, {}, self.id(), None, None)
        self.assertEqual(len([example for example in examples.examples if example.want]), calls)
        report = []
        results = doctest.DocTestRunner(verbose=False).run(examples, out=report.append)
        self.assertEqual(results.failed, 0, "".join(report))

    def test_section_2(self):
        self.check_examples(SECTION_2, 5)

    def test_readme(self):
        self.check_examples(README.read_text(encoding="utf-8"), 6)


if __name__ == "__main__":
    unittest.main()
