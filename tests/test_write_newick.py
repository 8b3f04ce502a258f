"""Writing texts: point 22 and `write_newick` of the heading levelgifts/newick.py."""

import random
import unittest

from levelgifts.nets import Net, is_match, renumber
from levelgifts.newick import read_newick, write_newick
from samples import CHERRY, DOC, KNOT, ONE_PLACE, SAMPLES, SHORT, STACK, greatest, random_nets, slow_text, stacked


class Written(unittest.TestCase):
    def gives(self, text, arrows, leaves):
        self.assertEqual(write_newick(Net(arrows, leaves)), text)
        self.assertEqual(write_newick(Net(arrows[::-1], leaves[::-1])), text)
        self.assertEqual(write_newick(read_newick(text)), text)

    def test_the_example(self):
        self.assertEqual(write_newick(read_newick(" ( c, a ) ; ")), "(c,a);")

    def test_the_one_place_net(self):
        self.gives("a;", *ONE_PLACE)

    def test_children_by_place_and_not_by_name(self):
        self.gives("(b,a);", *CHERRY)
        self.gives("(a,b);", [(4, 9), (4, 2)], [(2, "a"), (9, "b")])
        self.gives("((c,b),a);", [(1, 7), (1, 8), (7, 3), (7, 4)], [(8, "a"), (4, "b"), (3, "c")])
        self.gives("(a,(c,b));", [(1, 7), (1, 6), (7, 3), (7, 4)], [(6, "a"), (4, "b"), (3, "c")])

    def test_a_mixing(self):
        self.gives("((a,(b)#1),(#1,c));", *DOC)

    def test_a_mixing_that_is_written_comes_first_whatever_its_place(self):
        # In the split 5 the mixing 90 comes ahead of the leaf 3, since it is written in the split 4.
        arrows = [(0, 4), (0, 5), (4, 90), (4, 91), (90, 92), (5, 90), (5, 3)]
        self.gives("(((b)#1,a),(#1,c));", arrows, [(92, "b"), (91, "a"), (3, "c")])

    def test_a_mixing_that_is_not_written_comes_by_its_own_place(self):
        # The mixing 5 has a lower leaf, and the leaf 6 is above it by place.
        arrows = [(0, 4), (0, 9), (4, 5), (4, 6), (5, 1), (9, 5), (9, 2)]
        self.gives("(((b)#1,a),(#1,c));", arrows, [(1, "b"), (6, "a"), (2, "c")])
        arrows = [(0, 4), (0, 9), (4, 7), (4, 6), (7, 1), (9, 7), (9, 2)]
        self.gives("((a,(b)#1),(#1,c));", arrows, [(1, "b"), (6, "a"), (2, "c")])

    def test_two_written_mixings_come_by_their_marks(self):
        # The split 3 is written ahead of the mixing 5, so the mixing 10 has the mark 1.
        arrows = [(0, 1), (0, 2), (1, 3), (1, 5), (3, 10), (3, 12), (10, 11), (5, 13), (2, 5), (2, 10)]
        self.gives("((((a)#1,x),(b)#2),(#1,#2));", arrows, [(11, "a"), (12, "x"), (13, "b")])
        # Here the places have the order of the marks.
        arrows = [(0, 1), (0, 2), (1, 3), (1, 10), (3, 5), (3, 12), (5, 11), (10, 13), (2, 5), (2, 10)]
        self.gives("((((a)#1,x),(b)#2),(#1,#2));", arrows, [(11, "a"), (12, "x"), (13, "b")])

    def test_the_order_is_that_of_the_opening_bracket(self):
        # The mixing 9 is written within the split 5, which comes first by its place.
        arrows = [(0, 5), (0, 9), (5, 6), (5, 9), (9, 7)]
        self.gives("((a,(b)#1),#1);", arrows, [(6, "a"), (7, "b")])
        # The mixing 3 comes ahead of the split 5 by its place.
        arrows = [(0, 5), (0, 3), (5, 1), (5, 3), (3, 7)]
        self.gives("((b)#1,(#1,a));", arrows, [(1, "a"), (7, "b")])
        self.gives("((x)#1,(#1,y1));", *SHORT)

    def test_the_mark_is_given_when_the_mixing_is_reached(self):
        self.gives("((((a)#2)#1,#2),#1);", *stacked(2))
        self.gives("((((zz,a))#1,(#1)#2),#2);", *STACK)
        self.gives("(((b)#1,(a)#2),(#1,#2));", *KNOT)

    def test_marks_up_to_eight(self):
        text = write_newick(Net(*stacked(8)))
        self.assertEqual(text, "(" * 16 + "a" + "".join(f")#{k}" for k in range(8, 0, -1))
                         + "".join(f",#{k})" for k in range(8, 0, -1)) + ";")
        self.assertEqual(write_newick(read_newick(text)), text)

    def test_the_greatest_net(self):
        net = Net(*greatest())
        text = write_newick(net)
        self.assertEqual(text, slow_text(*greatest())[0])
        self.assertEqual(write_newick(read_newick(text)), text)

    def test_marks_of_the_text_that_was_read_are_not_kept(self):
        self.assertEqual(write_newick(read_newick("((a,(b)#77),(#77,c));")), "((a,(b)#1),(#1,c));")
        self.assertEqual(write_newick(read_newick("((a,#5),((b)#5,c));")), "((a,(b)#1),(#1,c));")
        text = "(((a)#2,x),((b)#1,(#1,#2)));"
        self.assertEqual(write_newick(read_newick(text)), "(((a)#1,x),((b)#2,(#1,#2)));")

    def test_samples_and_random_nets(self):
        chance = random.Random(30)
        for arrows, leaves in SAMPLES + random_nets(400, seed=31):
            net = Net(arrows, leaves)
            text, order = slow_text(arrows, leaves)
            self.assertEqual(write_newick(net), text)
            again = read_newick(text)
            self.assertIs(is_match(net, again, sorted(zip(order, range(len(order))))), True)
            self.assertEqual(write_newick(again), text)
            # Other numbers give another text, of a net that is alike as well.
            numbers = list(zip(net.places(), chance.sample(range(10000), len(order))))
            other = renumber(net, numbers)
            text, order = slow_text(other.arrows(), other.leaves())
            self.assertEqual(write_newick(other), text)
            self.assertIs(is_match(other, read_newick(text), sorted(zip(order, range(len(order))))), True)

    def test_by_name_again_and_nothing_changed(self):
        net = Net(*DOC)
        for _ in range(2):
            self.assertEqual(write_newick(net=net), "((a,(b)#1),(#1,c));")
            self.assertEqual(write_newick(net), "((a,(b)#1),(#1,c));")
        self.assertTrue(net == Net(*DOC))

    def test_equal_nets_have_equal_texts(self):
        chance = random.Random(32)
        for arrows, leaves in random_nets(60, seed=33):
            text = write_newick(Net(arrows, leaves))
            chance.shuffle(arrows)
            chance.shuffle(leaves)
            self.assertEqual(write_newick(Net(arrows, leaves)), text)
