"""The examples of the document, word for word."""

import doctest
import unittest

EXAMPLES = {
    "rules": """
>>> from longlife.rules import Rule, read_rule, write_rule
>>> (write_rule(Rule([6, 3], [4, 1, 4])), read_rule("B2/S").births)
('B36/S14', (2,))
""",
    "grown": """
>>> from longlife.patterns import grown
>>> from longlife.rules import read_rule
>>> grown([(0, 0), (0, 1)], read_rule("B2/S"), 1)
[(-1, 0), (-1, 1), (1, 0), (1, 1)]
""",
    "texts": """
>>> from longlife.patterns import write_text
>>> write_text([(5, 5), (5, 6), (7, 4), (8, 4)])
'.2O2/O/O!'
""",
    "squares": """
>>> from longlife.rules import read_rule
>>> from longlife.squares import Store
>>> s = Store(read_rule("B2/S"))
>>> q = s.built([(3, 3), (3, 4)], 3)
>>> (s.cells(s.middle(q)), s.cells(s.future(q, 0)))
([(1, 1), (1, 2)], [(0, 1), (0, 2), (2, 1), (2, 2)])
""",
    "fates": """
>>> from longlife.fates import fate
>>> from longlife.rules import read_rule
>>> (fate([(0, 0)], read_rule("B2/S"), 10), fate([(4, 4)], read_rule("B/S0"), 10), fate([(0, 0)], read_rule("B2/S"), 1))
((1, 1, 0, 0), (0, 1, 0, 0), None)
""",
}


class ExamplesTest(unittest.TestCase):
    def check_example(self, text, name):
        example = doctest.DocTestParser().get_doctest(text, {}, name, name, 0)
        told = []
        results = doctest.DocTestRunner(verbose=False).run(example, out=told.append)
        self.assertEqual(results.failed, 0, "".join(told))
        self.assertGreater(results.attempted, 0)

    def test_the_examples_of_the_document(self):
        for name, text in EXAMPLES.items():
            with self.subTest(name=name):
                self.check_example(text, name)

    def test_the_written_rule_of_the_document(self):
        from longlife.rules import Rule, write_rule
        self.assertEqual(write_rule(Rule([3, 6], [1])), "B36/S1")


if __name__ == "__main__":
    unittest.main()
