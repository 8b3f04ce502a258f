"""Scripts: points 84 and 85 and the heading levelgifts/script.py."""

import random
import unittest

from checks import Case, shown
from levelgifts.edits import edit_net
from levelgifts.faults import LevelError, TooMany
from levelgifts.kinds import kinds_of, level
from levelgifts.knots import greatest_knot
from levelgifts.nets import Net
from levelgifts.newick import read_newick, write_newick
from levelgifts.pairs import pairs
from levelgifts.pluck import least_row
from levelgifts.script import end_net, run_script
from levelgifts.shown import count_shown
from levelgifts.stuck import verdict
from samples import SAMPLES, random_nets, stacked
from slow_edits import formed
from test_edits import random_edit

TEXT = "((a,(b)#1),(#1,c));"
STUCK = "(((a)#1,(b)#2),(#1,#2));"
# A net of no kind: it has a mixing below a mixing, a crowd and a knot.
NO_KIND = "((((a)#2)#1,(#2)#3),(#1,#3));"
QUERIES = ["show", "pairs", "row", "verdict", "moments", "knot", "kinds", "level", "trees"]
NUMBERS = {"hang": (1, 3), "drop": (1,), "tie": (4,), "cut": (2,), "pluck": (2,), "undo": (0,), **{word: (0,) for word in QUERIES}}


def report_of(net, word):
    """What a command that asks about the net reports."""
    if word == "show":
        return write_newick(net)
    if word == "pairs":
        return "pairs" + "".join(f" {x}-{y}" for x, y in pairs(net))
    if word == "row":
        return "row" + "".join(f" {x}-{y}" for x, y in least_row(net)[0])
    answer, row, told = verdict(net)
    if word == "verdict":
        return answer
    if word == "moments":
        return "moments" + "".join(f" {place}:{moment}" for place, moment in told) if answer == "yes" else "none"
    if word == "knot":
        return "knot" + "".join(f" {place}" for place in greatest_knot(net))
    if word == "kinds":
        return ("kinds " + ", ".join(kinds_of(net))).strip()
    if word == "level":
        return f"level {level(net)}"
    return "error TooMany" if len(net.mixings()) > 6 else "trees {} {}".format(*count_shown(net))


def line_of(edit):
    """The line of an edit."""
    flat = [part for item in edit[1:] for part in (item if type(item) is tuple else (item,))]
    return " ".join([edit[0]] + [str(part) for part in flat if part is not None])


class Script(Case):
    def reports(self, lines, wanted):
        """The script of the lines reports what is wanted, one string for each line that is not skipped."""
        self.expect(wanted, run_script, "\n".join(lines))

    def behind(self, text, lines, wanted):
        """The lines behind a net report what is wanted."""
        net = read_newick(text)
        self.reports([f"net {text}", *lines], [f"net {len(net.leaves())} {len(net.mixings())}", *wanted])


class Commands(Script):
    def test_the_example(self):
        self.expect(["net 3 1", "yes", "error NoPair", "done", "(a,(b,c));"], run_script,
                    "net ((a,(b)#1),(#1,c));\nverdict\npluck a b\npluck b a\nshow")

    def test_net(self):
        for text, told in (("a;", "net 1 0"), (TEXT, "net 3 1"), (STUCK, "net 2 2"), ("  ( b ,a ) ; ", "net 2 0"), ("b;", "net 1 0")):
            self.reports([f"net {text}"], [told])
            self.reports([f"  net   {text}  "], [told])
            self.expect(read_newick(text), end_net, f"  net   {text}  ")
        # The spaces within the text stay as they are.
        self.expect(Net([(0, 1), (0, 2)], [(1, "b"), (2, "a")]), end_net, "net (  b ,  a   ) ;   ")
        for text, told in (("x;", "net 1 0"), ("net;", "net 1 0"), ("; x", "error BadText"), (";", "error BadText")):
            self.reports([f"net {text}", f"net  {text} "], [told] * 2)
        self.reports(["net a b;"], ["error BadText"])
        self.reports(["net a;b"], ["error BadText"])

    def test_the_length_of_a_text(self):
        text = "(a" + " " * 596 + ",b);"
        self.assertEqual(len(text), 602)
        self.reports(["net " + text], ["error BadText"])
        self.reports(["net " + text.replace("  ", " ", 2)], ["net 2 0"])
        self.reports(["net" + " " * 700 + "a;" + " " * 700], ["net 1 0"])

    def test_edits(self):
        self.behind(TEXT, ["hang d", "show", "hang e 0 1", "show", "drop d", "show"],
                    ["done", "(((a,(b)#1),(#1,c)),d);", "done",
                     write_newick(edit_net(edit_net(read_newick(TEXT), ("hang", "d", None)), ("hang", "e", (0, 1)))), "done",
                     write_newick(edit_net(edit_net(edit_net(read_newick(TEXT), ("hang", "d", None)), ("hang", "e", (0, 1))),
                                           ("drop", "d")))])
        self.behind(TEXT, ["tie 0 1 5 6", "trees", "cut 7 8", "show"], ["done", "trees 3 4", "done", TEXT])
        self.behind(TEXT, ["pluck b a", "show", "pairs"], ["done", "(a,(b,c));", "pairs b-c c-b"])
        self.expect(edit_net(read_newick(TEXT), ("tie", (0, 1), (5, 6))), end_net, f"net {TEXT}\ntie 0 1 5 6")
        self.expect(edit_net(read_newick(TEXT), ("cut", (1, 3))), end_net, f"net {TEXT}\ncut 1 3")

    def test_errors_of_edits(self):
        self.behind(TEXT, ["hang 1", "hang a", "hang abcdefghi", "hang d 1 0", "hang a 9999 0", "drop q", "drop b", "tie 0 1 0 1",
                           "tie 0 9 9 0", "tie 5 6 0 5", "cut 0 1", "cut 9 9", "pluck a b", "pluck a q", "pluck Q a", "show"],
                    ["error BadName", "error BadEdit", "error BadName", "error NoArrow", "error NoArrow", "error NoLeaf",
                     "error BadEdit", "error BadEdit", "error NoArrow", "error BadEdit", "error BadEdit", "error NoArrow",
                     "error NoPair", "error NoLeaf", "error NoLeaf", TEXT])
        names = ",".join(f"n{k})" for k in range(1, 12))
        self.reports(["net " + "(" * 11 + "n0," + names + ";", "hang q", "hang n0"],
                     ["net 12 0", "error TooMany", "error BadEdit"])

    def test_undo(self):
        self.behind(TEXT, ["undo", "hang d", "undo", "undo", "show"], ["nothing", "done", "done", "nothing", TEXT])
        self.behind(TEXT, ["hang d", "net a;", "undo", "show"], ["done", "net 1 0", "nothing", "a;"])
        self.behind(TEXT, ["hang d", "net a", "undo", "undo"], ["done", "error BadText", "done", "nothing"])
        self.behind(TEXT, ["hang d", "hang d", "undo", "undo"], ["done", "error BadEdit", "done", "nothing"])

    def test_queries(self):
        self.behind(TEXT, QUERIES, [TEXT, "pairs b-a b-c", "row b-a b-c a-c", "yes", "moments 0:0 1:2 2:3 3:2 4:3 5:1 6:3", "knot",
                                    "kinds tree child, pluckable, tree based, stack free", "level 1", "trees 2 2"])
        self.behind(STUCK, QUERIES, [STUCK, "pairs", "row", "no", "none", "knot 0 1 2 4 6", "kinds tree based, stack free", "level 2",
                                     "trees 1 4"])
        self.behind(NO_KIND, QUERIES, [NO_KIND, "pairs", "row", "no", "none", "knot 0 1 2 3 5 6", "kinds", "level 3", "trees 1 8"])
        self.behind("a;", QUERIES, ["a;", "pairs", "row", "yes", "moments 0:0", "knot",
                                    "kinds tree, tree child, pluckable, tree based, stack free", "level 0", "trees 1 1"])
        # The least row goes on until nothing can be plucked, also if the rest is stuck.
        self.behind("((((a)#1,(b)#2),(#1,#2)),(c,d));", ["row", "verdict", "pairs"], ["row c-d", "no", "pairs c-d d-c"])

    def test_queries_of_random_nets(self):
        for arrows, leaves in SAMPLES + random_nets(80, seed=281):
            text = write_newick(Net(arrows, leaves))
            net = read_newick(text)
            self.behind(text, QUERIES, [report_of(net, word) for word in QUERIES])

    def test_trees_with_many_mixings(self):
        for many in (6, 7, 8):
            self.behind(write_newick(Net(*stacked(many))), ["trees"], ["trees 1 64" if many == 6 else "error TooMany"])

    def test_random_scripts(self):
        chance, counts = random.Random(282), {"done": 0, "error": 0}
        for arrows, leaves in SAMPLES + random_nets(60, seed=282):
            text = write_newick(Net(arrows, leaves))
            net = read_newick(text)
            past, lines, wanted = [net], [f"net {text}"], [f"net {len(net.leaves())} {len(net.mixings())}"]
            for _ in range(19):
                word = chance.choice(QUERIES + ["undo", "undo"] + ["edit"] * 9)
                if word == "edit":
                    edit = self.word_edit(chance, past[-1])
                    word = line_of(edit)
                    try:
                        past.append(edit_net(past[-1], edit))
                        told = "done"
                        counts["done"] += 1
                    except LevelError as error:
                        told = "error " + type(error).__name__
                        counts["error"] += 1
                elif word == "undo":
                    told = "done" if len(past) > 1 else "nothing"
                    past = past[:-1] or past
                else:
                    told = report_of(past[-1], word)
                lines.append(word)
                wanted.append(told)
            self.reports(lines, wanted)
            self.expect(past[-1], end_net, "\n".join(lines))
        self.assertGreater(min(counts.values()), 100)

    def word_edit(self, chance, net):
        """A random edit whose names are words and whose places are places."""
        while True:
            edit = random_edit(chance, net)
            if formed(edit):
                places = [end for item in edit[1:] if type(item) is tuple for end in item]
                names = [item for item in edit[1:] if type(item) is str]
                if all(name and " " not in name for name in names) and all(0 <= place <= 9999 for place in places):
                    return edit


class Forms(Script):
    def test_numbers_of_words(self):
        for word, numbers in NUMBERS.items():
            for many in range(7):
                line = " ".join([word] + ["7"] * many)
                [told] = run_script(line)
                self.assertEqual(told, "error none" if many in numbers else "error form")
                [_, told] = run_script(f"net {TEXT}\n{line}")
                self.assertEqual(told == "error form", many not in numbers)
        self.reports(["net", "net ", " net", "  net   "], ["error form"] * 4)
        self.reports(["net a", "net a b c d e f g"], ["error BadText"] * 2)

    def test_what_is_no_command(self):
        words = ["nets", "Net", "NET a;", "net(a,b);", "net;", "a;", "show;", "shows", "Show", "quit", "help", "edit", "crossings",
                 "apply", "draw", "#", "-", "1", "hang,", "net-a;", "x" * 500, "undo.", "all"]
        self.reports(words[:18], ["error form"] * 18)
        self.behind(TEXT, words[18:], ["error form"] * len(words[18:]))
        for word in words:
            self.behind(TEXT, [word + " a", word], ["error form"] * 2)

    def test_words_for_places(self):
        bad = ["00", "01", "10000", "-1", "+1", "1.", "0x1", "a", "1a", "1,", "(0", "007", "99999", "1_0", "-0", "--1", "#1",
               "9" * 3000, "None", "True", "0.0", "1e3"]
        good = ["0", "1", "9", "10", "99", "100", "999", "1000", "9999"]
        for word in bad + good:
            told = "error form" if word in bad else "error none"
            for line in (f"hang d {word} 1", f"hang d 1 {word}", f"cut {word} 1", f"cut 1 {word}", f"tie {word} 1 2 3",
                         f"tie 1 {word} 2 3", f"tie 1 2 {word} 3", f"tie 1 2 3 {word}"):
                self.reports([line], [told])
        for word in good:
            self.behind("a;", [f"cut {word} {word}", f"hang d {word} 1"], ["error NoArrow"] * 2)
        for word in bad:
            self.behind("a;", [f"cut 0 {word}"], ["error form"])

    def test_a_name_may_be_any_word(self):
        for word in ["00", "-1", "A", "x" * 500, "#1", "a;", "(a,b);", "net", "hang", "'", "~"]:
            self.behind(TEXT, [f"hang {word}", f"drop {word}", f"pluck {word} a", f"pluck a {word}", f"hang {word} 0 1"],
                        ["done" if word in ("net", "hang") else "error BadName",
                         "done" if word in ("net", "hang") else "error NoLeaf", "error NoLeaf", "error NoLeaf",
                         "done" if word in ("net", "hang") else "error BadName"])

    def test_without_a_net(self):
        lines = ["hang d", "hang d 0 1", "hang 1", "drop a", "tie 0 1 0 1", "cut 0 1", "pluck a a", "undo", *QUERIES]
        self.reports(lines, ["error none"] * len(lines))
        self.assertIsNone(end_net("\n".join(lines)))
        # A form that is wrong goes ahead.
        self.reports(["hang", "cut 0", "show a", "undo 1", "cut 00 1"], ["error form"] * 5)

    def test_behind_a_failed_net(self):
        for text in ("a", "(a);", "((a,b)", "a;;", "(a,b)#1;", "(1a,b);", "(a,a);"):
            told = "error BadNet" if text == "(a,a);" else "error BadText"
            self.reports([f"net {text}", "show", "undo", "verdict"], [told, "error none", "error none", "error none"])
            self.assertIsNone(end_net(f"net {text}\nshow"))
            self.behind(TEXT, ["hang d", f"net {text}", "undo", "undo", "show"], ["done", told, "done", "nothing", TEXT])
            self.expect(read_newick(TEXT), end_net, f"net {TEXT}\nnet {text}")

    def test_blanks_and_empty_lines(self):
        self.reports(["", "   ", "\n", f"   net   {TEXT}   ", "", "  pluck   b    a  ", " show", ""],
                     ["net 3 1", "done", "(a,(b,c));"])
        for text in ("", " ", "\n", "   \n  \n", "\n" * 19):
            self.expect([], run_script, text)
            self.expect(None, end_net, text)

    def test_the_bound_on_lines(self):
        self.expect(["net 1 0"], run_script, "\n" * 19 + "net a;")
        self.expect(["net 1 0"], run_script, "net a;" + "\n" * 19)
        self.expect(["net 1 0"] + ["yes"] * 19, run_script, "\n".join(["net a;"] + ["verdict"] * 19))
        for text, many in (("\n" * 20, 21), ("net a;" + "\n" * 20, 21), ("\n" * 4000, 4001), ("\n".join(["verdict"] * 21), 21),
                           (" \n" * 30 + "net a;", 31)):
            for function in (run_script, end_net):
                self.refuses(TooMany, {"word": "lines", "many": many}, function, text)

    def test_by_name(self):
        self.expect(["net 1 0"], run_script, text="net a;")
        self.expect(read_newick("a;"), end_net, text="net a;")

    def test_equal_calls_behind_others(self):
        text = f"net {TEXT}\nhang d\nundo\nundo\nshow"
        before = shown([run_script(text), end_net(text)])
        run_script(text).clear()
        run_script("net a;\nhang q"), end_net("net a;")
        self.assertEqual(shown([run_script(text), end_net(text)]), before)
        self.assertEqual(run_script("show"), ["error none"])


if __name__ == "__main__":
    unittest.main()
