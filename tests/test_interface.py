"""The names and arguments of the interface, and that nothing else is bound or kept: points 1 and 2."""

import ast
import inspect
import os
import subprocess
import sys
import unittest

import levelgifts.nets
import levelgifts.newick
import levelgifts.shape
from levelgifts.nets import Net

ROOT = os.path.dirname(os.path.dirname(os.path.abspath(__file__)))

FUNCTIONS = {
    "shape": {"is_name": ["value"], "net_fault": ["arrows", "leaves"]},
    "nets": {
        "is_match": ["first", "second", "paper"],
        "invert_match": ["match"],
        "chain_matches": ["one", "other"],
        "renumber": ["net", "paper"],
    },
    "newick": {"read_newick": ["text"], "write_newick": ["net"]},
}
METHODS = {
    "__init__": ["arrows", "leaves"],
    "places": [], "inner": [], "splits": [], "mixings": [], "arrows": [], "leaves": [], "names": [], "downward": [],
    "mothers": ["place"], "children": ["place"], "kind_of": ["place"], "name_of": ["place"], "place_of": ["name"],
}


def parameters(function):
    """The names of the parameters; each of them may be passed by position or by its name."""
    found = inspect.signature(function).parameters.values()
    assert all(one.kind is one.POSITIONAL_OR_KEYWORD and one.default is one.empty for one in found)
    return [one.name for one in found]


class Interface(unittest.TestCase):
    def test_functions(self):
        for file in FUNCTIONS:
            module = getattr(levelgifts, file)
            for name, wanted in FUNCTIONS[file].items():
                function = getattr(module, name)
                self.assertEqual(parameters(function), wanted, name)
                self.assertEqual(function.__module__, f"levelgifts.{file}")

    def test_methods_stand_in_the_class_itself(self):
        self.assertEqual(Net.__module__, "levelgifts.nets")
        for name, wanted in METHODS.items():
            self.assertEqual(parameters(vars(Net)[name])[1:], wanted, name)
        self.assertIsInstance(vars(Net)["root"], property)
        for name in ("__eq__", "__contains__", "__iter__"):
            self.assertIn(name, vars(Net))

    def test_the_package_itself_binds_no_names(self):
        with open(os.path.join(ROOT, "levelgifts", "__init__.py"), encoding="utf-8") as file:
            self.assertEqual(ast.parse(file.read()).body, [])
        code = "import levelgifts; print([name for name in vars(levelgifts) if not name.startswith('__')])"
        done = subprocess.run([sys.executable, "-B", "-c", code], cwd=ROOT, capture_output=True, text=True, check=True)
        self.assertEqual(done.stdout.strip(), "[]")

    def test_each_file_can_be_imported_first(self):
        for file in ("faults", "shape", "nets", "newick"):
            code = f"import levelgifts.{file}"
            subprocess.run([sys.executable, "-B", "-W", "error", "-c", code], cwd=ROOT, check=True)

    def test_equal_answers_in_other_processes(self):
        code = (
            "from levelgifts.newick import read_newick, write_newick\n"
            "net = read_newick('((((zz,a))#1,(#1)#2),#2);')\n"
            "print(net.arrows(), net.leaves(), list(net), net.downward(), write_newick(net))\n"
        )
        found = set()
        for seed in ("0", "1", "2", "3"):
            done = subprocess.run([sys.executable, "-B", "-c", code], cwd=ROOT, capture_output=True, text=True,
                                  check=True, env={**os.environ, "PYTHONHASHSEED": seed})
            found.add(done.stdout)
        self.assertEqual(len(found), 1)


if __name__ == "__main__":
    unittest.main()
