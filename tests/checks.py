"""A test case that looks at more than the answer of a call: points 1, 2 and 6."""

import unittest

from levelgifts.clusters import Cluster
from levelgifts.nets import Net


def shown(value):
    """A text that tells the value and the kinds of all that stands in it. Nets and clusters are told by their lists."""
    if isinstance(value, Net):
        return f"Net({value.arrows()}, {value.leaves()})"
    if isinstance(value, Cluster):
        return f"Cluster({value.names()})"
    if type(value) in (list, tuple):
        return f"{type(value).__name__}({', '.join(shown(item) for item in value)})"
    if type(value) is dict:
        return shown([list(pair) for pair in value.items()])
    return repr(value)


def lists_in(value):
    """All list objects that stand in the value, itself included."""
    if type(value) not in (list, tuple):
        return []
    return [value] * (type(value) is list) + [found for item in value for found in lists_in(item)]


class Case(unittest.TestCase):
    def call(self, function, *passed, **named):
        """The answer of the call. Equal calls give equal answers, all lists are new, and nothing passed is changed."""
        before = shown([passed, named])
        one, other = function(*passed, **named), function(*passed, **named)
        self.assertEqual(shown(one), shown(other))
        self.assertEqual(shown([passed, named]), before)
        met = lists_in([one, other, list(passed), list(named.values())])
        self.assertEqual(len({id(item) for item in met}), len(met), "a list stands twice")
        return one

    def refuses(self, error, told, function, *passed, **named):
        """The call raises the class with just these attributes, keeps no list and changes nothing."""
        before = shown([passed, named])
        with self.assertRaises(error) as caught:
            function(*passed, **named)
        self.assertIs(type(caught.exception), error)
        self.assertEqual(shown(sorted(vars(caught.exception).items())), shown(sorted(told.items())))
        self.assertEqual(shown([passed, named]), before)
        met = lists_in([list(vars(caught.exception).values()), list(passed), list(named.values())])
        self.assertEqual(len({id(item) for item in met}), len(met), "an error keeps a list")

    def expect(self, wanted, function, *passed, **named):
        """The call has the wanted answer, kinds included."""
        self.assertEqual(shown(self.call(function, *passed, **named)), shown(wanted))
