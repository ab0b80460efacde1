"""The examples of the document, word for word, and those of README.md."""

import doctest
import pathlib
import unittest

README = pathlib.Path(__file__).resolve().parent.parent / "README.md"

EXAMPLES = {
    "rules": """
>>> from longlife.rules import Rule, read_rule, write_rule
>>> (write_rule(Rule([6, 3], [4, 1, 4])), read_rule("B2/S").births)
('B36/S14', (2,))
""",
    "grown": """
>>> from longlife.patterns import grown
>>> from longlife.rules import read_rule
>>> grown([(0, 0), (0, 1)], read_rule("B2/S"), 1)
[(-1, 0), (-1, 1), (1, 0), (1, 1)]
""",
    "texts": """
>>> from longlife.patterns import write_text
>>> write_text([(5, 5), (5, 6), (7, 4), (8, 4)])
'.2O2/O/O!'
""",
    "squares": """
>>> from longlife.rules import read_rule
>>> from longlife.squares import Store
>>> s = Store(read_rule("B2/S"))
>>> q = s.built([(3, 3), (3, 4)], 3)
>>> (s.cells(s.middle(q)), s.cells(s.future(q, 0)))
([(1, 1), (1, 2)], [(0, 1), (0, 2), (2, 1), (2, 2)])
""",
    "fates": """
>>> from longlife.fates import fate
>>> from longlife.rules import read_rule
>>> (fate([(0, 0)], read_rule("B2/S"), 10), fate([(4, 4)], read_rule("B/S0"), 10), fate([(0, 0)], read_rule("B2/S"), 1))
((1, 1, 0, 0), (0, 1, 0, 0), None)
""",
    "pasts": """
>>> from longlife.pasts import denies, search
>>> from longlife.rules import read_rule
>>> (search(["O"], read_rule("B1/S"))[0], denies(["O"], read_rule("B/S"), ("fails", 0, 0)))
('past', True)
""",
    "islands": """
>>> from longlife.islands import census, islands
>>> (islands([(0, 0), (1, 2), (0, 5)]), census([(0, 0), (0, 9), (5, 5), (6, 5)]))
([[(0, 0), (1, 2)], [(0, 5)]], [('2O!', 1), ('O!', 2)])
""",
    "stills": """
>>> from longlife.rules import read_rule
>>> from longlife.stills import denies_still, is_still
>>> (is_still(["O"], read_rule("B2/S0")), denies_still(["O"], read_rule("B2/S"), ("fails", 0, 0)))
(True, True)
""",
    "rings": """
>>> from longlife.rings import ring_fate, ring_next
>>> from longlife.rules import read_rule
>>> (ring_next([(0, 0)], read_rule("B2/S"), 1, 3), ring_fate([(0, 0)], read_rule("B3/S"), 1, 3, 9))
([], (2, 1))
""",
}


class ExamplesTest(unittest.TestCase):
    def check_example(self, text, name):
        example = doctest.DocTestParser().get_doctest(text, {}, name, name, 0)
        told = []
        results = doctest.DocTestRunner(verbose=False).run(example, out=told.append)
        self.assertEqual(results.failed, 0, "".join(told))
        self.assertGreater(results.attempted, 0)

    def test_the_examples_of_the_document(self):
        for name, text in EXAMPLES.items():
            with self.subTest(name=name):
                self.check_example(text, name)

    def test_the_examples_of_the_readme(self):
        text = README.read_text(encoding="ascii")
        self.check_example(text.replace("```", ""), "README.md")

    def test_the_written_rule_of_the_document(self):
        from longlife.rules import Rule, write_rule
        self.assertEqual(write_rule(Rule([3, 6], [1])), "B36/S1")


if __name__ == "__main__":
    unittest.main()
