"""Reading texts: points 17 to 21 and the heading levelgifts/newick.py."""

import random
import unittest

from levelgifts.faults import BadNet, BadText
from levelgifts.nets import Net
from levelgifts.newick import read_newick, write_newick
from samples import random_nets, slow_text
from slow_reader import slow_read

DOC_TEXT = "((a,(b)#1),(#1,c));"
DOC_ARROWS = [(0, 1), (0, 5), (1, 2), (1, 3), (3, 4), (5, 3), (5, 6)]
DOC_LEAVES = [(2, "a"), (4, "b"), (6, "c")]


def outcome(text):
    """What reading gives, in the form of `slow_read`."""
    try:
        net = read_newick(text)
    except BadText as error:
        return ("text", (error.word, error.at))
    except BadNet as error:
        return ("net", (error.word, error.at))
    return (net.arrows(), net.leaves())


class ReadCase(unittest.TestCase):
    def gives(self, text, arrows, leaves):
        self.assertEqual(outcome(text), (arrows, leaves), text)
        self.assertIs(type(read_newick(text)), Net)

    def fault(self, text, word, at):
        self.assertEqual(outcome(text), ("text", (word, at)), text)

    def no_net(self, text, word, at):
        self.assertEqual(outcome(text), ("net", (word, at)), text)


class Good(ReadCase):
    def test_the_examples(self):
        self.assertEqual(read_newick("((a,(b)#1),(#1,c));").arrows(), DOC_ARROWS)
        self.assertEqual(write_newick(read_newick(" ( c, a ) ; ")), "(c,a);")
        with self.assertRaises(BadText):
            read_newick("(a,b")

    def test_one_place(self):
        self.gives("a;", [], [(0, "a")])
        self.gives("  z2345678 ;  ", [], [(0, "z2345678")])

    def test_splits(self):
        self.gives("(a,b);", [(0, 1), (0, 2)], [(1, "a"), (2, "b")])
        self.gives("(b,(c2,a));", [(0, 1), (0, 2), (2, 3), (2, 4)], [(1, "b"), (3, "c2"), (4, "a")])

    def test_a_mention_behind_its_full_form(self):
        self.gives(DOC_TEXT, DOC_ARROWS, DOC_LEAVES)

    def test_a_mention_ahead_of_its_full_form(self):
        # The mixing has the offset of the mention, so its number is less than that of `((b)#1,c)`.
        arrows = [(0, 1), (0, 4), (1, 2), (1, 3), (3, 5), (4, 3), (4, 6)]
        self.gives("((a,#1),((b)#1,c));", arrows, [(2, "a"), (5, "b"), (6, "c")])
        self.gives("(#1,((a)#1,b));", [(0, 1), (0, 2), (1, 3), (2, 1), (2, 4)], [(3, "a"), (4, "b")])

    def test_a_mixing_below_a_mixing(self):
        arrows = [(0, 1), (0, 2), (1, 2), (1, 3), (2, 3), (3, 4)]
        self.gives("((((a)#2)#1,#2),#1);", arrows, [(4, "a")])
        self.gives("((((a)#9)#33,#9),#33);", arrows, [(4, "a")])
        # Both mentions stand ahead.
        arrows = [(0, 1), (0, 2), (1, 3), (2, 1), (2, 3), (3, 4)]
        self.gives("(#1,(#2,((a)#2)#1));", arrows, [(4, "a")])

    def test_marks(self):
        for mark in ("1", "2", "9", "10", "19", "99", "50"):
            self.gives(f"((a,(b)#{mark}),(#{mark},c));", DOC_ARROWS, DOC_LEAVES)
            self.gives(f"( (a, (b) #{mark}), (#{mark}, c) );", DOC_ARROWS, DOC_LEAVES)

    def test_marks_that_begin_alike(self):
        text = "(((a)#1,(b)#11),((#11,#1),c));"
        arrows = [(0, 1), (0, 6), (1, 2), (1, 4), (2, 3), (4, 5), (6, 7), (6, 8), (7, 2), (7, 4)]
        self.gives(text, arrows, [(3, "a"), (5, "b"), (8, "c")])

    def test_blanks_wherever_they_may_stand(self):
        tokens = ["(", "(", "a", ",", "(", "b", ")", "#1", ")", ",", "(", "#1", ",", "c", ")", ")", ";"]
        self.gives("".join(tokens), DOC_ARROWS, DOC_LEAVES)
        self.gives(" ".join(tokens), DOC_ARROWS, DOC_LEAVES)
        self.gives("  " + "   ".join(tokens) + "  ", DOC_ARROWS, DOC_LEAVES)
        for k in range(len(tokens) + 1):
            self.gives("".join(tokens[:k]) + " " + "".join(tokens[k:]), DOC_ARROWS, DOC_LEAVES)
            self.gives("".join(tokens[:k]) + " " * 500 + "".join(tokens[k:]), DOC_ARROWS, DOC_LEAVES)

    def test_mothers_that_are_mother_and_child(self):
        arrows = [(0, 1), (0, 3), (1, 2), (1, 3), (3, 4)]
        self.gives("((a,(b)#1),#1);", arrows, [(2, "a"), (4, "b")])

    def test_names(self):
        for name in ("a", "z", "abcdefgh", "a1234567", "m0", "z9z9"):
            self.gives(name + ";", [], [(0, name)])

    def test_by_name_and_again(self):
        for _ in range(2):
            self.assertTrue(read_newick(text=DOC_TEXT) == Net(DOC_ARROWS, DOC_LEAVES))
            self.fault("(a,b", "end", 4)
            self.no_net("(a,a);", "again", 1)


class Long(ReadCase):
    def test_600_and_601_characters(self):
        self.gives("(a,b);" + " " * 594, [(0, 1), (0, 2)], [(1, "a"), (2, "b")])
        self.fault("(a,b);" + " " * 595, "long", 600)
        self.gives(" " * 598 + "a;", [], [(0, "a")])
        self.fault(" " * 599 + "a;", "long", 600)
        self.fault(" " * 600, "end", 600)
        self.fault(" " * 601, "long", 600)
        self.fault("x" * 4000, "long", 600)

    def test_ahead_of_all_other_faults(self):
        self.fault("A" + " " * 600, "long", 600)
        self.fault("(" * 601, "long", 600)
        self.fault("(" * 600, "deep", 40)
        self.fault("\n" * 4000, "long", 600)
        self.fault("A" + " " * 599, "sign", 0)


class Sign(ReadCase):
    def test_each_sign(self):
        tokens = "abcdefghijklmnopqrstuvwxyz(),;# "
        for sign in [chr(code) for code in range(32, 127)] + ["\n"]:
            if sign not in tokens:
                self.fault(sign, "sign", 0)
                self.fault(f"({sign}a,b);", "sign", 1)
                self.fault(f"(a,b){sign};", "sign", 5)
                self.fault(f"(a,b);{sign}", "sign", 6)

    def test_digits(self):
        self.fault("1a;", "sign", 0)
        self.fault("(1a,b);", "sign", 1)
        self.fault("(a 1,b);", "sign", 3)
        self.fault("((a)1,b);", "sign", 4)
        self.fault("((a)# 1,b);", "mark", 4)
        self.fault("((a)#1 1,#1);", "sign", 7)
        self.gives("(a1,b2);", [(0, 1), (0, 2)], [(1, "a1"), (2, "b2")])

    def test_newline(self):
        self.fault("\na;", "sign", 0)
        self.fault("a\n;", "sign", 1)
        self.fault("a;\n", "sign", 2)
        self.fault("(a,\nb);", "sign", 3)

    def test_capital_letters(self):
        self.fault("(a,B);", "sign", 3)
        self.fault("(aB,b);", "sign", 2)

    def test_ahead_of_the_order(self):
        self.fault("a;A", "sign", 2)
        self.fault("a A;", "sign", 2)


class Name(ReadCase):
    def test_nine_signs(self):
        self.gives("abcdefgh;", [], [(0, "abcdefgh")])
        self.fault("abcdefghi;", "name", 0)
        self.fault("(a,b23456789);", "name", 3)
        self.fault("(a," + "b" * 500 + ");", "name", 3)

    def test_ahead_of_the_order(self):
        self.fault("(a,b)abcdefghi;", "name", 5)
        self.fault("a;abcdefghi", "name", 2)
        self.fault("a abcdefgh;", "order", 2)

    def test_two_names_in_a_row(self):
        self.fault("abcd efgh;", "order", 5)


class Mark(ReadCase):
    def test_digits_of_a_mark(self):
        for digits in ("", "0", "01", "00", "100", "123", "999", "000", "1" * 50):
            self.fault(f"((a)#{digits},b);", "mark", 4)
            self.fault(f"(#{digits},b);", "mark", 1)
        for digits in ("1", "9", "10", "90", "99"):
            self.fault(f"((a)#{digits},b);", "marks", 4)
            self.fault(f"(#{digits},b);", "marks", 1)

    def test_ahead_of_the_order(self):
        self.fault("a#;", "mark", 1)
        self.fault("a#0;", "mark", 1)
        self.fault("a#1;", "order", 1)
        self.fault("(a,b)#100;", "mark", 5)
        self.fault("(a,b)#10;", "order", 5)
        self.fault("a;#", "mark", 2)

    def test_a_name_behind_a_mark(self):
        self.fault("(#1a,b);", "order", 3)
        self.fault("((a)#1b,#1);", "order", 6)
        self.fault("((a)#b,#1);", "mark", 4)

    def test_blanks_within_a_mark(self):
        self.fault("((a)# 1,#1);", "mark", 4)
        self.fault("((a)#1 0,#10);", "sign", 7)


class Order(ReadCase):
    def test_at_the_beginning(self):
        for token in (")", ",", ";"):
            self.fault(token, "order", 0)
            self.fault("  " + token, "order", 2)

    def test_behind_an_opening_bracket(self):
        for token in (")", ",", ";"):
            self.fault("(" + token, "order", 1)

    def test_behind_a_comma(self):
        for token in (")", ",", ";"):
            self.fault("(a," + token, "order", 3)

    def test_behind_a_node_that_is_in_no_bracket(self):
        for token in (")", ",", "(", "b", "#1"):
            self.fault("a " + token, "order", 2)
            self.fault("(a,b)" + token, "order", 5)
            self.fault("(a)#1" + " " + token, "order", 6)
            self.fault("#1 " + token, "order", 3)

    def test_behind_the_first_node_in_a_bracket(self):
        for node in ("a", "#1", "(a,b)", "(a)#1"):
            for token in (";", "(", "b", "#2"):
                self.fault(f"({node} {token}", "order", len(node) + 2)

    def test_behind_the_second_node_in_a_bracket(self):
        for node in ("b", "#1", "(a,b)", "(a)#1"):
            for token in (";", "(", "b", "#2", ","):
                self.fault(f"(a,{node} {token}", "order", len(node) + 4)

    def test_behind_a_bracket_with_one_node(self):
        for token in (";", "(", "b", ",", ")"):
            self.fault("(a)" + token, "order", 3)
            self.fault("((a)" + token, "order", 4)
            self.fault("(b,(a) " + token, "order", 7)

    def test_behind_a_bracket_with_two_nodes(self):
        self.fault("((a,b)#1", "order", 6)
        self.fault("((a,b)c", "order", 6)
        self.fault("((a,b)(", "order", 6)
        self.fault("((a,b);", "order", 6)

    def test_behind_the_end(self):
        for token in (";", ",", "(", ")", "a", "#1"):
            self.fault("a;" + token, "order", 2)
            self.fault("a;  " + token, "order", 4)

    def test_ahead_of_deep(self):
        self.fault("(" * 40 + "a(", "order", 41)


class Deep(ReadCase):
    def test_40_and_41_open_brackets(self):
        self.fault("(" * 40 + "a", "end", 41)
        self.fault("(" * 41, "deep", 40)
        self.fault("(" * 41 + "a", "deep", 40)
        self.fault(" " + "( " * 41, "deep", 81)
        self.fault("(a," * 40 + "b", "end", 121)
        self.fault("(a," * 41, "deep", 120)
        self.fault("(a," * 39 + "((b", "deep", 118)

    def test_40_open_brackets_and_a_whole_text(self):
        text = "(a," * 40 + "b" + ")" * 40 + ";"
        self.no_net(text, "long", 0)
        self.fault("(a," * 41 + "b" + ")" * 41 + ";", "deep", 120)

    def test_brackets_of_one_node_count(self):
        text = "(" * 40 + "a" + "".join(f")#{k}" for k in range(1, 41)) + ";"
        self.fault(text, "marks", 42)
        self.fault("(" + text, "deep", 40)

    def test_closed_brackets_do_not_count(self):
        # 60 brackets, of which never more than 31 are open.
        text = "((x,y)," * 30 + "z" + ")" * 30 + ";"
        self.no_net(text, "long", 0)
        text = "(" * 39 + "(a)#1,(b)#2)#3,(c)#4"
        self.fault(text, "order", text.index("#3"))
        text = "(" * 39 + "(a,b),(c,d))"
        self.fault(text, "end", len(text))
        text = "(" * 39 + "(a)#1,((c"
        self.fault(text, "deep", len(text) - 2)
        text = "(" * 39 + "(a)#1,(c"
        self.fault(text, "end", len(text))


class End(ReadCase):
    def test_the_empty_text(self):
        self.fault("", "end", 0)
        self.fault("   ", "end", 3)

    def test_each_beginning(self):
        for text in (DOC_TEXT, "a;", "(a,b);", "((((a)#2)#1,#2),#1);", "( c , a ) ;"):
            for k in range(len(text)):
                if text[:k][-1:] != "#":
                    self.fault(text[:k], "end", k)
                    self.fault(text[:k] + "   ", "end", k + 3)

    def test_ahead_of_the_marks(self):
        self.fault("(#1,b)", "end", 6)
        self.fault("(#1,(#1,#1)", "end", 11)

    def test_behind_a_token_at_fault(self):
        self.fault("(a,B", "sign", 3)
        self.fault("(a,,", "order", 3)


class Marks(ReadCase):
    def test_a_mark_once(self):
        self.fault("((a)#1,b);", "marks", 4)
        self.fault("(a,#1);", "marks", 3)
        self.fault("#1;", "marks", 0)
        self.fault("(a)#1;", "marks", 3)

    def test_a_mark_twice_in_one_form(self):
        self.fault("((a)#1,(b)#1);", "marks", 4)
        self.fault("(#1,(a,#1));", "marks", 1)

    def test_a_mark_three_times(self):
        self.fault("((a)#1,(#1,#1));", "marks", 4)
        self.fault("((#1,(a)#1),(b)#1);", "marks", 2)
        self.fault("(#7,((a)#7,(#7,(b)#7)));", "marks", 1)

    def test_the_least_offset_of_several_marks(self):
        self.fault("((a)#2,(#1,(b)#3));", "marks", 4)
        self.fault("((a)#1,((#1,(b)#2),(c)#3));", "marks", 15)
        self.fault("(((a)#2,#1),(b)#2);", "marks", 5)
        self.fault("((#9,(a)#8),(#8,(#7,b)));", "marks", 2)
        # The first standing of 5 is ahead of that of 4, and its second one behind.
        self.fault("(((a)#5,(b)#4),((#5,c),#5));", "marks", 5)

    def test_10_and_1_are_two_marks(self):
        self.fault("((a)#1,#10);", "marks", 4)
        self.fault("((a)#10,#1);", "marks", 4)

    def test_ahead_of_the_net(self):
        self.fault("(a,(a,#1));", "marks", 6)
        self.fault("((a)#1,((a)#2,#2));", "marks", 4)


class TwoFaults(ReadCase):
    def test_the_least_offset(self):
        self.fault("(a,abcdefghi,B);", "name", 3)
        self.fault("(a,B,abcdefghi);", "sign", 3)
        self.fault("(a,,B);", "order", 3)
        self.fault("(#0,abcdefghi,);", "mark", 1)
        self.fault("(abcdefghi,#0,);", "name", 1)
        self.fault("()" + "(" * 50, "order", 1)
        self.fault("(" * 41 + ")A", "deep", 40)
        self.fault("((a)#1,B);", "sign", 7)
        self.fault("((a)#1,b));", "order", 9)
        self.fault("(a,a)) A", "order", 5)


class NoNets(ReadCase):
    def test_names_that_stand_twice(self):
        self.no_net("(a,a);", "again", 1)
        self.no_net("(a,(b,(c,(b,a))));", "again", 3)

    def test_equal_arrows_stand_beside_one_another(self):
        self.no_net("((a)#1,#1);", "double", 1)
        self.no_net("(#1,(a)#1);", "double", 1)
        self.no_net("(c,(b,((a)#1,#1)));", "double", 5)

    def test_names_ahead_of_arrows(self):
        self.no_net("(((a)#1,#1),a);", "again", 1)

    def test_no_leaves(self):
        self.no_net("((#1)#1,(#2)#2);", "none", 0)
        self.no_net("(#1)#1;", "none", 0)

    def test_a_mixing_at_the_root(self):
        self.no_net("((#1,a))#1;", "degree", 0)
        self.no_net("(((#1,b),a))#1;", "degree", 0)

    def test_rings(self):
        # The mixing 1 is its own child.
        self.no_net("((#1)#1,a);", "ring", 1)
        self.no_net("(b,((#1,a))#1);", "ring", 2)
        self.no_net("(((#2)#1,a),((#1)#2,b));", "ring", 2)

    def test_too_many(self):
        names = [f"n{k}" for k in range(25)]
        for many in (12, 13, 24, 25):
            text = "(".join([""] + [name + "," for name in names[:many - 1]]) + names[many - 1] + ")" * (many - 1) + ";"
            if many == 12:
                self.assertEqual(len(read_newick(text).names()), 12)
            else:
                self.no_net(text, "long", 1 if many < 25 else 0)

    def test_too_many_mixings(self):
        for many in (7, 8, 9, 10):
            inner = "a"
            for k in range(many, 0, -1):
                inner = f"({inner})#{k}"
            text = f"({inner},#{many})"
            for k in range(many - 1, 1, -1):
                text = f"({text},#{k})"
            text = f"({text},#1);"
            if many <= 8:
                self.assertEqual(len(read_newick(text).mixings()), many)
            else:
                self.no_net(text, "mixings", many)


class Compared(ReadCase):
    def test_written_texts_with_changes(self):
        chance = random.Random(18)
        words = set()
        for arrows, leaves in random_nets(2500, seed=17):
            text = slow_text(arrows, leaves)[0]
            for _ in range(chance.randrange(4)):
                text = change_a_little(chance, text)
            found = slow_read(text)
            words.add(found[1][0] if found[0] in ("text", "net") else None)
            self.assertEqual(outcome(text), found, text)
        self.assertGreaterEqual(words, {None, "sign", "mark", "order", "end", "marks", "again"})

    def test_random_tokens(self):
        chance = random.Random(19)
        tokens = ["(", "(", "(", ")", ")", ",", ",", ";", "a", "b1", "c", "#1", "#2", "#10", " ", "#", "A", "1", "\n"]
        for _ in range(5000):
            text = "".join(chance.choice(tokens) for _ in range(chance.randrange(1, 9)))
            self.assertEqual(outcome(text), slow_read(text), text)

    def test_exchanged_marks(self):
        chance = random.Random(20)
        for arrows, leaves in random_nets(1500, seed=21):
            text = slow_text(arrows, leaves)[0]
            marks = [at for at, sign in enumerate(text) if sign == "#"]
            if len(marks) > 1:
                for _ in range(chance.randrange(1, 4)):
                    one, two = chance.sample(marks, 2)
                    signs = list(text)
                    signs[one + 1], signs[two + 1] = signs[two + 1], signs[one + 1]
                    text = "".join(signs)
                self.assertEqual(outcome(text), slow_read(text), text)


def change_a_little(chance, text):
    """Takes out, puts in or replaces one character."""
    at = chance.randrange(len(text) + 1)
    deed = chance.randrange(3)
    sign = chance.choice("(),;# ab01Z\n" + text)
    if deed == 0:
        return text[:at] + text[at + 1:]
    if deed == 1:
        return text[:at] + sign + text[at:]
    return text[:at] + sign + text[at + 1:]
