"""The names and arguments of the interface, and that nothing else is bound or kept: points 1 and 2."""

import ast
import importlib
import inspect
import os
import subprocess
import sys
import unittest

ROOT = os.path.dirname(os.path.dirname(os.path.abspath(__file__)))

# What the interface lists, by file, as it is written there.
FUNCTIONS = {
    "shape": ["is_name(value)", "net_fault(arrows, leaves)"],
    "nets": ["is_match(first, second, paper)", "invert_match(match)", "chain_matches(one, other)", "renumber(net, paper)"],
    "newick": ["read_newick(text)", "write_newick(net)"],
    "pairs": ["pair_word(net, pair)", "pairs(net)", "pair_places(net, pair)"],
    "pluck": [
        "pluck(net, pair)", "put_back(net, pair)", "rests(net, row)", "pluck_all(net, row)", "build(row, *, last)",
        "least_row(net)", "can_be_plucked(net)", "is_row(net, paper)", "all_rows(net, *, limit=20)",
    ],
    "momentjudge": ["moment_fault(net, paper)", "is_moments(net, paper)"],
    "moments": [
        "gifts(net, moments)", "tree_arrows(net, moments)", "tree_leaves(net, moments, place)",
        "live_at(net, moments, moment)", "squeeze(net, moments)", "all_moments(net, *, ranks=7, limit=20)",
    ],
    "roads": ["row_of_moments(net, moments)", "moments_of_row(net, row)"],
    "knots": [
        "knot_rule(net, members, place)", "is_knot(net, paper)", "greatest_knot(net, *, members=None)", "knot_core(net)",
    ],
    "stuck": [
        "is_stuck(net)", "stuck_rest(net)", "first_moments(net)", "verdict(net)", "is_verdict(net, paper)",
        "find_match(first, second)", "alike(first, second)",
    ],
    "profiles": [
        "ways(net, place)", "profile(net)", "is_stack_free(net)", "is_profile_of(net, paper)",
        "profile_gap(first, second)",
    ],
    "fromprofile": ["row_from_profile(paper)", "net_from_profile(paper)"],
    "kinds": [
        "holds(net, kind)", "kinds_of(net)", "inside(first, second)", "parting_net(first, second)", "blobs(net)",
        "level(net)",
    ],
    "treebased": [
        "is_choice(net, paper)", "is_support(net, paper)", "is_crowd(net, paper)", "find_support(net)", "find_crowd(net)",
        "support_of_moments(net, moments)",
    ],
    "clusters": ["cluster_of(net, place)", "hard_clusters(net)"],
    "trees": [
        "is_tree(value)", "tree_text(tree)", "net_of_tree(tree)", "tree_of_net(net)", "read_tree(text)", "tree_names(tree)",
        "tree_clusters(tree)", "tree_from_clusters(paper)", "restrict(tree, names)", "outer_of(tree, a, b, c)",
    ],
    "shown": [
        "choices(net)", "tree_by_choice(net, paper)", "shown_trees(net)", "count_shown(net)", "find_showing(net, tree)",
        "is_showing(net, tree, paper)", "soft_clusters(net)",
    ],
    "hybrid": [
        "pluck_tree(tree, pair)", "is_common_row(trees, paper)", "net_of_common_row(trees, row)", "common_row(trees)",
        "least_gifts(trees)",
    ],
    "quarrels": [
        "quarrels(first, second)", "span(tree, triple)", "is_bound_paper(first, second, paper)",
        "bound_paper(first, second)",
    ],
    "reconcile": [
        "is_gene_tree(value)", "gene_nodes(gene)", "history_counts(net, moments, gene, paper)",
        "is_history(net, moments, gene, paper)", "least_price(net, moments, gene, *, prices=(2, 3, 1))",
        "find_history(net, moments, gene, *, prices=(2, 3, 1))", "price_table(net, moments, gene, *, prices=(2, 3, 1))",
        "is_floor(net, moments, gene, paper, *, prices=(2, 3, 1))",
    ],
    "drawnet": [
        "is_order(net, moments, paper)", "all_orders(net, moments)", "best_order(net, moments)",
        "crossings(net, moments, order)", "layers(net, moments, order)", "draw(net, moments, order)",
    ],
    "edits": ["edit_net(net, edit)", "edit_all(net, edits)", "edit_effect(net, edit)"],
    "judge": ["is_paper(word, net, paper)", "papers_for(net)", "judge_all(net, papers)"],
    "script": ["run_script(text)", "end_net(text)"],
}
# The classes: their file, their methods, their properties, and the signs that they have.
CLASSES = {
    "Net": ("nets", [
        "__init__(self, arrows, leaves)", "places(self)", "inner(self)", "splits(self)", "mixings(self)", "arrows(self)",
        "leaves(self)", "names(self)", "downward(self)", "mothers(self, place)", "children(self, place)",
        "kind_of(self, place)", "name_of(self, place)", "place_of(self, name)",
    ], ["root"], ["__eq__", "__contains__", "__iter__"]),
    "Cluster": ("clusters", [
        "__init__(self, names)", "names(self)", "inside_of(self, other)", "fits(self, other)",
    ], ["size"], ["__and__", "__or__", "__sub__", "__eq__", "__contains__", "__bool__", "__iter__"]),
    "Keeper": ("keep", [
        "__init__(self, net)", "apply(self, edit)", "apply_all(self, edits)", "undo(self)", "effect(self, edit)",
        "answer(self)",
    ], ["net", "steps"], ["__iter__", "__enter__", "__exit__"]),
}


class Interface(unittest.TestCase):
    def test_functions(self):
        for file, lines in FUNCTIONS.items():
            module = importlib.import_module(f"levelgifts.{file}")
            for line in lines:
                function = vars(module)[line.split("(")[0]]
                self.assertEqual(function.__name__ + str(inspect.signature(function)), line)
                self.assertEqual(function.__module__, f"levelgifts.{file}")

    def test_methods_stand_in_the_class_itself(self):
        for name, (file, lines, properties, signs) in CLASSES.items():
            made = vars(importlib.import_module(f"levelgifts.{file}"))[name]
            self.assertEqual(made.__module__, f"levelgifts.{file}")
            for line in lines:
                method = vars(made)[line.split("(")[0]]
                self.assertEqual(method.__name__ + str(inspect.signature(method)), line)
            for word in properties:
                self.assertIsInstance(vars(made)[word], property)
            for sign in signs:
                self.assertIn(sign, vars(made))

    def test_the_package_itself_binds_no_names(self):
        with open(os.path.join(ROOT, "levelgifts", "__init__.py"), encoding="utf-8") as file:
            self.assertEqual(ast.parse(file.read()).body, [])
        code = "import levelgifts; print([name for name in vars(levelgifts) if not name.startswith('__')])"
        done = subprocess.run([sys.executable, "-B", "-c", code], cwd=ROOT, capture_output=True, text=True, check=True)
        self.assertEqual(done.stdout.strip(), "[]")

    def test_each_file_can_be_imported_first(self):
        for file in ["faults", "keep", *FUNCTIONS]:
            code = f"import levelgifts.{file}"
            subprocess.run([sys.executable, "-B", "-W", "error", "-c", code], cwd=ROOT, check=True)

    def test_equal_answers_in_other_processes(self):
        code = (
            "from levelgifts.newick import read_newick, write_newick\n"
            "from levelgifts.moments import all_moments\n"
            "from levelgifts.pairs import pairs\n"
            "from levelgifts.pluck import all_rows, least_row, pluck\n"
            "from levelgifts.knots import greatest_knot, knot_core\n"
            "from levelgifts.profiles import profile\n"
            "from levelgifts.clusters import Cluster, hard_clusters\n"
            "from levelgifts.kinds import blobs, kinds_of, parting_net\n"
            "from levelgifts.treebased import find_crowd, find_support\n"
            "from levelgifts.trees import tree_clusters\n"
            "from levelgifts.stuck import find_match, verdict\n"
            "net = read_newick('((((zz,a))#1,(#1)#2),#2);')\n"
            "print(net.arrows(), net.leaves(), list(net), net.downward(), write_newick(net))\n"
            "net = read_newick('(((a,b),(c)#1),(#1,d));')\n"
            "print(pairs(net), least_row(net)[0], all_rows(net), pluck(net, ('c', 'd')).arrows(), all_moments(net))\n"
            "print(verdict(net), profile(net), find_match(net, read_newick('((d,#1),((c)#1,(b,a)));')))\n"
            "net = read_newick('((((a)#1,(b)#2),(#1,#2)),(((c)#3,(d)#4),(#3,#4)));')\n"
            "print(verdict(net), greatest_knot(net), knot_core(net), find_match(net, net))\n"
            "print(blobs(net), kinds_of(net), find_support(net), hard_clusters(net), tree_clusters((('a', 'c'), 'b')))\n"
            "print(list(Cluster(['b', 'a1', 'c', 'z'])), parting_net('pluckable', 'tree'))\n"
            "print(find_crowd(read_newick('((((a)#3)#1,(#3)#2),(#1,#2));')))\n"
            "from levelgifts.shown import find_showing, shown_trees, soft_clusters\n"
            "from levelgifts.hybrid import common_row\n"
            "from levelgifts.quarrels import bound_paper\n"
            "from levelgifts.reconcile import find_history, price_table\n"
            "from levelgifts.stuck import first_moments\n"
            "print(shown_trees(net), soft_clusters(net), find_showing(net, (('a', 'b'), ('c', 'd'))))\n"
            "trees = [(('a', 'b'), ('c', 'd')), ((('a', 'c'), 'b'), 'd')]\n"
            "print(common_row(trees), bound_paper(*trees))\n"
            "net = read_newick('(((a,b),(c)#1),(#1,d));')\n"
            "moments = first_moments(net)\n"
            "print(find_history(net, moments, (('c', 'a'), 'c')), price_table(net, moments, (('c', 'a'), 'c')))\n"
            "from levelgifts.drawnet import all_orders, best_order, draw\n"
            "from levelgifts.judge import papers_for\n"
            "from levelgifts.script import run_script\n"
            "print(all_orders(net, moments), draw(net, moments, best_order(net, moments)), papers_for(net))\n"
            "print(run_script('net (a,b);\\ntie 0 1 0 2\\nkinds\\nhang z z\\nhang z\\nrow'))\n"
        )
        found = set()
        for seed in ("0", "1", "2", "3"):
            done = subprocess.run([sys.executable, "-B", "-c", code], cwd=ROOT, capture_output=True, text=True,
                                  check=True, env={**os.environ, "PYTHONHASHSEED": seed})
            found.add(done.stdout)
        self.assertEqual(len(found), 1)


if __name__ == "__main__":
    unittest.main()
