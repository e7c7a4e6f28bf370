"""The examples at the end of DOC.md, as they stand there, and those of README.md."""

import doctest
import os
import re
import unittest

README = os.path.join(os.path.dirname(os.path.dirname(os.path.abspath(__file__))), "README.md")
EXAMPLES = """
>>> from loopcuts.choices import all_least
>>> from loopcuts.codes import Code
>>> from loopcuts.cuts import check, least_cost, least_within
>>> from loopcuts.doors import check_doors, door_of, one_door
>>> from loopcuts.loops import loops
>>> from loopcuts.runs import longest_unmet, met
>>> from loopcuts.texts import code_text
>>> code = Code(('a', 'b', 'c'), 'a', [('a', 'b', 5), ('b', 'c', 3), ('c', 'b', 1), ('c', 'b', 2)])
>>> loops(code), door_of(code, (1, 2))
(((1, 2), (1, 3)), 'b')
>>> check_doors(code, ('one', (('c', 'b'), ('b', 'a'))))
'one'
>>> check(code, (1,), (((1, 2), 1), ((1, 3), 2)))
3
>>> all_least(code), least_within(code, (2, 3))
(((1,), (2, 3)), (2, 3))
>>> met(code, (0, 1, 2, 1, 3), (1,)), longest_unmet(code, (1,))
(2, 1)
>>> code_text(Code(('a', 'b'), 'a', [('a', 'b', 5)]))
'places a b\\ndoor a\\na b 5'
"""


class Examples(unittest.TestCase):

    def test_each_answer_is_the_one_that_stands_there(self):
        names = {}
        examples = doctest.DocTestParser().get_examples(EXAMPLES)
        self.assertEqual(len(examples), 14)
        # Not by doctest itself: it leaves a name among Python's builtins.
        for example in examples:
            if example.want:
                self.assertEqual(repr(eval(example.source, names)) + "\n", example.want, example.source)
            else:
                exec(example.source, names)

    def test_the_code_of_the_readme_runs(self):
        with open(README, encoding="ascii") as file:
            blocks = re.findall("```python\n(.*?)```", file.read(), re.DOTALL)
        self.assertGreater(len(blocks), 5)
        names = {}
        for block in blocks:
            exec(compile(block, README, "exec"), names)
