"""The examples of the document's interface, as they stand there."""

import unittest

from fivebases.errors import NoText

EXAMPLES = '''
>>> from fivebases.ratio import Ratio
>>> str(Ratio(1, 2) + Ratio(-2, 3))
'-1/6'

>>> from fivebases.ratio import read_ratio
>>> read_ratio("2/4")
raises NoText

>>> from fivebases.partition import turned, with_strip
>>> turned((3, 1))
(2, 1, 1)

>>> with_strip((2, 1), 2)
((4, 1), (3, 2), (3, 1, 1), (2, 2, 1))

>>> from fivebases.letters import letter
>>> str((letter(2, 1) + letter(2, 2)) * (letter(2, 1) - letter(2, 2)))
'x1^2 - x2^2'

>>> from fivebases.letters import letter
>>> (letter(2, 1) * letter(2, 2)).is_symmetric()
True

>>> from fivebases.insertion import pair_of_word
>>> pair_of_word((2, 1, 2))
(((1, 2), (2,)), ((1, 3), (2,)))

>>> from fivebases.fillings import fillings
>>> fillings((2, 1), (1, 1, 1))
(((1, 2), (3,)), ((1, 3), (2,)))

>>> from fivebases.symmetric import one
>>> str(one("e", (2, 1)).meaning())
'm[2,1] + 3*m[1,1,1]'

>>> from fivebases.symmetric import one
>>> one("h", (2,)) - one("e", (2,)) == one("p", (2,))
True

>>> from fivebases.symmetric import read_symmetric
>>> read_symmetric("h[2] - e[2]")
raises NoText

>>> from fivebases.changes import whole_matrices
>>> whole_matrices((1, 1), (1, 1))
2

>>> from fivebases.changes import change
>>> [str(x) for x in change(2, "p", "m")[1]]
['1', '2']

>>> from fivebases.console import Console
>>> console = Console()
>>> console.enter("let a = e[2,1]")
('function', 'e[2,1]')

>>> from fivebases.replies import reply_to
>>> from fivebases.symmetric import one
>>> reply_to({"a": one("e", (2, 1))}, "change a m")[0]
('function', 'm[2,1] + 3*m[1,1,1]')

>>> from fivebases.replies import reply_to
>>> reply_to({}, "insert 212")[0]
('pair', '1.2/2 | 1.3/2')
'''


class TestExamples(unittest.TestCase):
    def test_each_one(self):
        names = {}
        for example in EXAMPLES.strip().split("\n\n"):
            *steps, last, answer = [line.removeprefix(">>> ") for line in example.splitlines()]
            for step in steps:
                exec(step, names)
            if answer == "raises NoText":
                with self.assertRaises(NoText):
                    eval(last, names)
            else:
                self.assertEqual(repr(eval(last, names)), answer, example)


if __name__ == "__main__":
    unittest.main()
