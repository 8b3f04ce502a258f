"""Clusters: points 54 and 60 and the heading levelgifts/clusters.py."""

import random
from itertools import combinations

from checks import Case
from levelgifts.clusters import Cluster, cluster_of, hard_clusters
from levelgifts.faults import BadName, NoPlace
from levelgifts.nets import Net
from levelgifts.newick import read_newick
from samples import CHERRY, DOC, KNOT, ONE_PLACE, SAMPLES, SHORT, STACK, caterpillar, greatest, random_nets
from slow_kinds import slow_cluster
from slow_moments import places_of

BIG = 10 ** 59
NO_NAMES = [None, True, False, 0, 1, -BIG, "", "A", "1", "1a", " a", "a ", "abcdefghi", "a-b", "~", "a\n", "x" * 4000, [], (),
            ["a"], ("a",), [["a"]], [None], ("a", "b")]


def deep(value):
    for _ in range(58):
        value = [value]
    return value


class Making(Case):
    def made(self, names):
        """A cluster and the list, which stays as it was."""
        before = list(names)
        cluster = Cluster(names)
        self.assertEqual(names, before)
        return cluster

    def test_names(self):
        for names in ([], ["a"], ["b", "a"], ["b", "a", "b", "b"], ["aa", "b", "a1", "ba", "a"], ["a", "a"], ["abcdefgh", "z9"]):
            cluster = self.made(names)
            self.expect(sorted(set(names)), cluster.names)
            self.assertEqual(cluster.size, len(set(names)))
            self.assertIs(type(cluster.size), int)
            self.assertIs(bool(cluster), names != [])
            self.assertEqual(list(cluster), sorted(set(names)))

    def test_long_lists(self):
        names = [f"n{k % 97}" for k in range(400)]
        cluster = self.made(names)
        self.assertEqual((cluster.size, cluster.names()), (97, sorted(set(names))))

    def test_bad_names(self):
        for bad in NO_NAMES + [deep("a")]:
            self.refuses(BadName, {"bad": bad}, Cluster, [bad])
            self.refuses(BadName, {"bad": bad}, Cluster, ["a", "b", bad])
            self.refuses(BadName, {"bad": bad}, Cluster, [bad, "A", None, "b"])
            self.refuses(BadName, {"bad": "B"}, Cluster, ["a", "B", bad])
            self.refuses(BadName, {"bad": [["q"]]}, Cluster, ["a", "a", [["q"]], bad])

    def test_the_passed_list_is_not_kept(self):
        names = ["b", "a"]
        cluster = Cluster(names)
        names.append("c")
        names[0] = "d"
        self.assertEqual(cluster.names(), ["a", "b"])
        cluster.names().clear()
        self.assertEqual(cluster.names(), ["a", "b"])

    def test_by_name(self):
        self.assertEqual(Cluster(names=["b", "a"]).names(), ["a", "b"])


class Signs(Case):
    def test_every_two(self):
        parts = [list(part) for many in range(5) for part in combinations(["a", "a1", "b", "zz"], many)]
        for one in parts:
            for other in parts:
                self.check(Cluster(one[::-1]), Cluster(other + other), set(one), set(other))

    def check(self, one, other, first, second):
        for found, wanted in ((one & other, first & second), (one | other, first | second), (one - other, first - second)):
            self.assertIs(type(found), Cluster)
            self.assertIsNot(found, one)
            self.assertIsNot(found, other)
            self.assertEqual((found.names(), found.size, bool(found)), (sorted(wanted), len(wanted), bool(wanted)))
        self.assertIs(one == other, first == second)
        self.assertIs(one != other, first != second)
        self.expect(first <= second, one.inside_of, other)
        self.expect(not first & second or first <= second or second <= first, one.fits, other)
        # None of these changes a cluster.
        self.assertEqual((one.names(), other.names()), (sorted(first), sorted(second)))
        self.assertEqual((one.size, other.size), (len(first), len(second)))

    def test_with_itself(self):
        for names in ([], ["a"], ["b", "a"]):
            cluster = Cluster(names)
            self.assertEqual((cluster & cluster).names(), sorted(names))
            self.assertEqual((cluster | cluster).names(), sorted(names))
            self.assertEqual((cluster - cluster).names(), [])
            self.assertTrue(cluster == cluster)
            self.expect(True, cluster.inside_of, cluster)
            self.expect(True, cluster.fits, cluster)

    def test_the_empty_cluster(self):
        for names in ([], ["a"], ["b", "a"]):
            self.expect(True, Cluster([]).fits, Cluster(names))
            self.expect(True, Cluster(names).fits, Cluster([]))
            self.expect(True, Cluster([]).inside_of, Cluster(names))
            self.expect(names == [], Cluster(names).inside_of, Cluster([]))

    def test_clusters_that_cross(self):
        one, other = Cluster(["a", "b"]), Cluster(["b", "c"])
        self.expect(False, one.fits, other)
        self.expect(True, one.fits, Cluster(["c", "d"]))
        self.expect(True, one.fits, Cluster(["c", "b", "a"]))
        self.expect(True, Cluster(["c", "b", "a"]).fits, one)
        self.expect(False, one.inside_of, other)
        self.assertIs(one.fits(other=other), False)
        self.assertIs(one.inside_of(other=Cluster(["c", "b", "a"])), True)

    def test_what_is_no_cluster(self):
        for cluster in (Cluster([]), Cluster(["a"])):
            for other in NO_NAMES + ["a", ["a"], ("a",), {"a"}, {"a": True}, Net([], [(0, "a")])]:
                self.assertIs(cluster == other, False)
                self.assertIs(cluster != other, True)
                self.assertIs(other == cluster, False)

    def test_membership(self):
        cluster = Cluster(["b", "a1"])
        for value in NO_NAMES + ["a", "a1b", deep("b"), ["b"], ("b",)]:
            self.assertIs(value in cluster, False)
            self.assertIs(value in Cluster([]), False)
        self.assertIs("b" in cluster, True)
        self.assertIs("a1" in cluster, True)
        self.assertIs("a1" not in cluster, False)

    def test_iteration(self):
        cluster = Cluster(["c", "a", "b"])
        self.assertEqual([(x, y) for x in cluster for y in cluster], [(x, y) for x in "abc" for y in "abc"])
        one, other = iter(cluster), iter(cluster)
        self.assertEqual([next(one), next(other), next(one), next(one), next(other)], ["a", "a", "b", "c", "b"])
        self.assertEqual(list(Cluster([])), [])
        for name in cluster:
            self.assertEqual((cluster | Cluster(["d"])).size, 4)

    def test_random_clusters(self):
        chance, names = random.Random(151), [f"n{k}" for k in range(8)]
        for _ in range(300):
            one, other = chance.choices(names, k=chance.randrange(9)), chance.choices(names, k=chance.randrange(9))
            self.check(Cluster(one), Cluster(other), set(one), set(other))


class OfNets(Case):
    def test_small(self):
        net = Net(*DOC)
        wanted = [["a", "b", "c"], ["a", "b"], ["a"], ["b"], ["b"], ["b", "c"], ["c"]]
        for place, names in enumerate(wanted):
            cluster = cluster_of(net, place)
            self.assertIs(type(cluster), Cluster)
            self.assertEqual(cluster.names(), names)
            self.assertEqual(cluster, Cluster(names))
        self.assertEqual(cluster_of(Net(*ONE_PLACE), 7).names(), ["a"])
        self.assertEqual(cluster_of(place=9, net=Net(*CHERRY)).names(), ["a"])

    def test_hard_clusters(self):
        self.expect([("a",), ("a", "b"), ("a", "b", "c"), ("b",), ("b", "c"), ("c",)], hard_clusters, Net(*DOC))
        self.expect([("a",)], hard_clusters, Net(*ONE_PLACE))
        self.expect([("a",), ("a", "b"), ("b",)], hard_clusters, Net(*KNOT))
        self.expect([("a",), ("a", "zz"), ("zz",)], hard_clusters, Net(*STACK))
        self.expect([("x",), ("x", "y1"), ("y1",)], hard_clusters, net=Net(*SHORT))
        self.expect([("a",), ("a1",), ("a1", "aa"), ("a1", "aa", "b"), ("aa",), ("b",)][1:], hard_clusters,
                    read_newick("((aa,a1),b);"))

    def test_random_nets(self):
        for arrows, leaves in SAMPLES + random_nets(300, seed=152):
            net, found = Net(arrows, leaves), set()
            for place in places_of(arrows, leaves):
                names = slow_cluster(arrows, leaves, place)
                self.assertEqual(cluster_of(net, place).names(), names)
                self.assertEqual(cluster_of(net, place).size, len(names))
                found.add(tuple(names))
            self.expect(sorted(found), hard_clusters, net)

    def test_no_place(self):
        for sample in (ONE_PLACE, CHERRY, DOC, SHORT, greatest(), caterpillar(12)):
            for bad in (-1, 8888, 9998, 10 ** 4, BIG, -BIG):
                self.refuses(NoPlace, {"bad": bad}, cluster_of, Net(*sample), bad)

    def test_equal_calls_behind_others(self):
        net = Net(*DOC)
        before = cluster_of(net, 1), hard_clusters(net)
        for place in net.places():
            (cluster_of(net, place) | Cluster(["q"])).names().clear()
        hard_clusters(net).clear()
        self.assertEqual((cluster_of(net, 1), hard_clusters(net)), before)
        self.assertEqual((net.arrows(), net.leaves()), DOC)
