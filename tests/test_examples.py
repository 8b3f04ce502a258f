"""The examples that the interface gives, as they stand there, and those of README.md."""

import contextlib
import io
import os
import re
import unittest

from levelgifts import faults
from test_interface import ROOT

# What is written behind the last line of an example is its answer, or the error that it raises; nothing stands for None.
EXAMPLES = r"""
>>> from levelgifts.shape import net_fault
>>> net_fault([(0, 1), (0, 2)], [(1, "a"), (2, "b")])

>>> from levelgifts.shape import net_fault
>>> net_fault([(0, 1)], [(1, "a")])
('degree', 0)

>>> from levelgifts.newick import read_newick
>>> read_newick("((a,(b)#1),(#1,c));").arrows()
[(0, 1), (0, 5), (1, 2), (1, 3), (3, 4), (5, 3), (5, 6)]

>>> from levelgifts.newick import read_newick
>>> from levelgifts.newick import write_newick
>>> write_newick(read_newick(" ( c, a ) ; "))
'(c,a);'

>>> from levelgifts.newick import read_newick
>>> read_newick("(a,b")
raises BadText

>>> from levelgifts.newick import read_newick
>>> from levelgifts.pairs import pairs
>>> pairs(read_newick("((a,(b)#1),(#1,c));"))
[('b', 'a'), ('b', 'c')]

>>> from levelgifts.newick import read_newick
>>> from levelgifts.pluck import least_row
>>> least_row(read_newick("((a,(b)#1),(#1,c));"))[0]
[('b', 'a'), ('b', 'c'), ('a', 'c')]

>>> from levelgifts.newick import read_newick
>>> from levelgifts.moments import gifts
>>> net = read_newick("((a,(b)#1),(#1,c));")
>>> gifts(net, [(0, 0), (1, 2), (2, 3), (3, 2), (4, 3), (5, 1), (6, 3)])
[(1, 3)]

>>> from levelgifts.newick import read_newick
>>> from levelgifts.roads import moments_of_row
>>> net = read_newick("((a,(b)#1),(#1,c));")
>>> moments_of_row(net, [("b", "a"), ("b", "c"), ("a", "c")])
[(0, 0), (1, 2), (2, 3), (3, 2), (4, 3), (5, 1), (6, 3)]

>>> from levelgifts.newick import read_newick
>>> from levelgifts.knots import greatest_knot
>>> greatest_knot(read_newick("(((a)#1,(b)#2),(#1,#2));"))
[0, 1, 2, 4, 6]

>>> from levelgifts.newick import read_newick
>>> from levelgifts.stuck import verdict
>>> verdict(read_newick("(((a)#1,(b)#2),(#1,#2));"))
('no', [], [0, 1, 2, 4, 6])

>>> from levelgifts.newick import read_newick
>>> from levelgifts.stuck import verdict
>>> verdict(read_newick("a;"))
('yes', [], [(0, 0)])

>>> from levelgifts.newick import read_newick
>>> from levelgifts.profiles import profile
>>> profile(read_newick("((a,(b)#1),(#1,c));"))
(['a', 'b', 'c'], [(0, 1, 0), (0, 1, 1), (1, 1, 0), (1, 2, 1)])

>>> from levelgifts.trees import read_tree
>>> read_tree("(b,(c,a));")
(('a', 'c'), 'b')

>>> from levelgifts.trees import tree_clusters
>>> tree_clusters((("a", "c"), "b"))
[('a',), ('a', 'b', 'c'), ('a', 'c'), ('b',), ('c',)]

>>> from levelgifts.trees import outer_of
>>> outer_of((("a", "c"), "b"), "a", "b", "c")
'b'

>>> from levelgifts.newick import read_newick
>>> from levelgifts.shown import shown_trees
>>> shown_trees(read_newick("((a,(b)#1),(#1,c));"))
[((('a', 'b'), 'c'), 1), (('a', ('b', 'c')), 1)]

>>> from levelgifts.hybrid import common_row
>>> common_row([(("a", "b"), "c"), ("a", ("b", "c"))])
[('a', 'b'), ('b', 'c'), ('a', 'c')]

>>> from levelgifts.quarrels import bound_paper
>>> bound_paper((("a", "b"), "c"), ("a", ("b", "c")))
[('a', 'b', 'c')]

>>> from levelgifts.newick import read_newick
>>> from levelgifts.drawnet import draw
>>> net = read_newick("((a,(b)#1),(#1,c));")
>>> moments = [(0, 0), (1, 2), (2, 3), (3, 2), (4, 3), (5, 1), (6, 3)]
>>> draw(net, moments, ["a", "b", "c"])
['+    ', '| +  ', 'o-x |', 'a b c']

>>> from levelgifts.script import run_script
>>> run_script("net ((a,(b)#1),(#1,c));\nverdict\npluck a b\npluck b a\nshow")
['net 3 1', 'yes', 'error NoPair', 'done', '(a,(b,c));']
"""


class Examples(unittest.TestCase):
    def test_each(self):
        blocks = EXAMPLES.strip().split("\n\n")
        self.assertEqual(len(blocks), 21)
        for block in blocks:
            lines = block.split("\n")
            code = [line[4:] for line in lines if line.startswith(">>> ")]
            told = [line for line in lines if not line.startswith(">>> ")]
            self.check(code, told[0] if told else "None")

    def check(self, code, told):
        names = {}
        exec("\n".join(code[:-1]), names)
        if told.startswith("raises "):
            with self.assertRaises(getattr(faults, told[7:])):
                eval(code[-1], names)
        else:
            self.assertEqual(repr(eval(code[-1], names)), told, code[-1])

    def test_readme(self):
        with open(os.path.join(ROOT, "README.md"), encoding="utf-8") as file:
            blocks = re.findall("```python\n(.*?)```", file.read(), flags=re.DOTALL)
        names = {}
        checked = 0
        for block in blocks:
            with contextlib.redirect_stdout(io.StringIO()):
                exec(block, names)
            for code, told in re.findall(r"^(\w[^=\n]*?) +# (.*)$", block, flags=re.MULTILINE):
                # What changes a keeper is not done twice.
                if code.startswith(("import", "from", "keeper")) or ": " in told.split("'")[0] or " and " in told:
                    continue
                wanted = f"({told})" if repr(eval(code, names)) == f"({told})" else told
                self.assertEqual(repr(eval(code, names)), wanted, code)
                checked += 1
        self.assertGreater(checked, 40)


if __name__ == "__main__":
    unittest.main()
