"""The examples that the document gives, as they stand there."""

import doctest
import unittest
from pathlib import Path

README = Path(__file__).resolve().parent.parent / "README.md"

EXAMPLES = """
>>> from wishedwires.ratios import Ratio
>>> [str(1 - Ratio(1, 3)), Ratio(6, -4), Ratio(1, 2) < 1, str(Ratio(3).over(2))]
['2/3', Ratio(-3, 2), True, '3/2']

>>> from wishedwires.kinds import JoiningKind, PathKind, PinKind
>>> [PinKind("amp", "p", "q", "o", swaps=(("p", "q"),)).text, JoiningKind("res", row="sum", side="inverse").text, list(PathKind("sw", "g").exchanges())]
['pins amp p q o : p q', 'path res : row sum side inverse', [(0, 1, 2), (1, 0, 2)]]

>>> 1 - Ratio(1, 3)
Ratio(2, 3)
>>> [str(Ratio(3)), str(Ratio(-5, 2)), Ratio(3, 2), Ratio(3, 1)]
['3', '-5/2', Ratio(3, 2), Ratio(3, 1)]

>>> from wishedwires.rules import ValueRule
>>> ValueRule("inverse")(2, 3)
Ratio(6, 5)

>>> PinKind("amp", "p", "q", "o", swaps=(("p", "q"),)).text
'pins amp p q o : p q'
>>> JoiningKind("res", row="sum", side="inverse").text
'path res : row sum side inverse'
"""


class ExamplesTest(unittest.TestCase):
    def test_examples(self):
        self.run_text(EXAMPLES)

    def test_readme(self):
        self.run_text(README.read_text().replace("```", ""))

    def run_text(self, text):
        test = doctest.DocTestParser().get_doctest(text, {}, "examples", None, 0)
        self.assertGreater(len(test.examples), 0)
        told = []
        failed = doctest.DocTestRunner(verbose=False).run(test, out=told.append).failed
        self.assertEqual(failed, 0, "".join(told))
