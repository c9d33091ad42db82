"""[19], [4]: papers of rings and of cuts, whoever wrote them, read."""

import itertools
import random
import unittest

from joinedever.lightcheck import cuts_hold, rings_hold
from joinedever.lightest import lightest
from joinedever.lightpapers import cuts_for, rings_for
from layered import subsets
from light import lightest_by_taking_away, some_stand, some_stands, tie
from samples import ODD_THINGS, deep_thing, is_number, stays_as_it_was, wide_thing

ANY_THINGS = ODD_THINGS + (0, 1, 2, -1, 10 ** 39, -10 ** 39, deep_thing(20), wide_thing(5000), "a", "c", ("a",))
# A square 0, 1, 2, 3 with both lines across, a second tie of 4 and 5; 6 is alone. In the forest: a, b, c and f.
STAND = (
    tie("a", 0, 1, 2), tie("b", 1, 2, 3), tie("c", 2, 3, 4), tie("d", 3, 0, 5), tie("e", 0, 2, 6), tie("f", 5, 4, 1),
    tie("g", 4, 5, 1), tie("h", 3, 1, 9),
)
FOREST = ("a", "b", "c", "f")
RINGS = (("d", ("c", "b", "a")), ("e", ("a", "b")), ("g", ("f",)), ("h", ("c", "b")))
CUTS = (("a", (0,)), ("b", (0, 1)), ("c", (3,)), ("f", (4,)))
MANY = 7


def with_second(paper, number, thing):
    """The paper with a thing in place of what stands behind one of its names."""
    return paper[:number] + ((paper[number][0], thing),) + paper[number + 1:]


class Checked(unittest.TestCase):
    def rings(self, thing, truth, forest=FOREST, stand=STAND, many=MANY):
        self.assertIs(stays_as_it_was(self, rings_hold, many, stand, forest, thing), truth)

    def cuts(self, thing, truth, forest=FOREST, stand=STAND, many=MANY):
        self.assertIs(stays_as_it_was(self, cuts_hold, many, stand, forest, thing), truth)


class RingsLetBy(Checked):
    def test_by_hand(self):
        self.assertEqual(lightest(MANY, STAND), FOREST)
        self.rings(RINGS, True)

    def test_of_no_ties(self):
        for many in (1, 2, 24):
            self.rings((), True, (), (), many)

    def test_ways_with_a_tie_more_than_once(self):
        self.rings(with_second(RINGS, 1, ("a", "a", "a", "b")), True)
        self.rings(with_second(RINGS, 1, ("a", "b", "b", "b")), True)
        self.rings(with_second(RINGS, 1, ("a", "b", "c", "c")), True)
        self.rings(with_second(RINGS, 2, ("f",) * 999), True)
        self.rings(with_second(RINGS, 0, ("c",) * 1001 + ("b",) * 601 + ("a",)), True)

    def test_all_ways_of_at_most_four_ties(self):
        beside = {"a": {0: 1, 1: 0}, "b": {1: 2, 2: 1}, "c": {2: 3, 3: 2}, "f": {5: 4, 4: 5}}
        for number, (one, other) in enumerate(((3, 0), (0, 2), (4, 5), (3, 1))):
            for length in range(5):
                for way in itertools.product(FOREST, repeat=length):
                    here = one
                    for name in way:
                        here = beside[name].get(here)
                    paper = with_second(RINGS, number, way)
                    self.assertIs(rings_hold(MANY, STAND, FOREST, paper), here == other)

    def test_ways_by_another_hand(self):
        dice = random.Random(3)
        for many, stand in some_stands(90):
            paper = []
            for name, way in rings_for(many, stand):
                longer = []
                for step in way:
                    # There and back again, as often as it may be.
                    longer += [step] * dice.choice((1, 3, 5, 7))
                paper.append((name, tuple(longer)))
            self.rings(tuple(paper), True, lightest(many, stand), stand, many)


class RingsRefused(Checked):
    def test_a_forest_that_is_not_the_lightest(self):
        # A tie more, with and without a ring for it.
        for more in "degh":
            forest = tuple(sorted(FOREST + (more,)))
            self.rings(RINGS, False, forest)
            self.rings(tuple(pair for pair in RINGS if pair[0] != more), False, forest)
        # One less, whatever way is told of it.
        for less in FOREST:
            forest = tuple(name for name in FOREST if name != less)
            for way in ((), (less,), ("d",), ("a",), ("f",), ("a", "b", "c"), ("a", "b", "d")):
                self.rings(tuple(sorted(RINGS + ((less, way),))), False, forest)
        # Another one in its stead: the way over it is no way of ties ahead.
        self.rings((("c", ("b", "a", "d")), ("e", ("a", "b")), ("g", ("f",)), ("h", ("d", "a"))), False, ("a", "b", "d", "f"))
        self.rings((("d", ("c", "b", "a")), ("e", ("a", "b")), ("f", ("g",)), ("h", ("c", "b"))), False, ("a", "b", "c", "g"))

    def test_a_forest_with_a_ring(self):
        stand = (tie("a", 0, 1, 1), tie("b", 0, 1, 2), tie("c", 1, 0, 3))
        self.rings((("c", ("a",)),), False, ("a", "b"), stand, 2)
        self.rings((), False, ("a", "b", "c"), stand, 2)
        self.rings((("b", ("a",)), ("c", ("a",))), True, ("a",), stand, 2)
        ring = tuple(tie("abcd"[k], k, (k + 1) % 4, k) for k in range(4))
        self.rings((), False, ("a", "b", "c", "d"), ring, 4)
        self.rings((("d", ("c", "b", "a")),), True, ("a", "b", "c"), ring, 4)

    def test_a_forest_that_is_no_rising_tuple_of_names(self):
        for forest in (
            ("b", "a", "c", "f"), FOREST[::-1], ("a", "a", "b", "c", "f"), ("a", "b", "c", "f", "z"), ("", "a", "b", "c", "f"),
            list(FOREST), dict.fromkeys(FOREST), "abcf", ("a", "b", "c", ("f",)), ("a", "b", "c", "f", None), ("a", "b", "c", "f", "f"),
            ("a", "b", "c", ["f"]), (True, "a", "b", "c", "f"), (FOREST,), None,
        ):
            self.rings(RINGS, False, forest)

    def test_pairs_that_are_not_just_those(self):
        for number, pair in enumerate(RINGS):
            self.rings(RINGS[:number] + RINGS[number + 1:], False)
            self.rings(RINGS[:number] + (pair,) + RINGS[number:], False)
        self.rings(RINGS[::-1], False)
        self.rings((RINGS[1], RINGS[0]) + RINGS[2:], False)
        self.rings((("a", ("a",)),) + RINGS, False)
        self.rings(RINGS + (("z", ("a",)),), False)
        self.rings((), False)
        for pair in (("d",), ("d", ("c", "b", "a"), ()), ["d", ("c", "b", "a")], (("c", "b", "a"), "d"), ("z", ("c", "b", "a")), ()):
            self.rings((pair,) + RINGS[1:], False)
        for thing in (list(RINGS), dict(RINGS), None, True, "", 0):
            self.rings(thing, False)

    def test_a_way_with_a_tie_out_of_the_forest(self):
        self.rings(with_second(RINGS, 3, ("d", "a")), False)
        self.rings(with_second(RINGS, 3, ("d", "e", "b")), False)
        self.rings(with_second(RINGS, 3, ("h",)), False)
        self.rings(with_second(RINGS, 0, ("d",)), False)
        self.rings(with_second(RINGS, 2, ("z",)), False)
        self.rings(with_second(RINGS, 1, ("d", "c")), False)

    def test_a_way_with_a_tie_that_is_not_ahead(self):
        # The forest is one, and the way leads there, but over a heavier tie, or over one of a later name.
        stand = (tie("a", 0, 1, 5), tie("b", 1, 2, 1), tie("c", 0, 2, 4))
        self.rings((("c", ("a", "b")),), False, ("a", "b"), stand, 3)
        self.rings((("a", ("c", "b")),), True, ("b", "c"), stand, 3)
        stand = (tie("a", 0, 1, 5), tie("b", 1, 0, 5))
        self.rings((("a", ("b",)),), False, ("b",), stand, 2)
        self.rings((("b", ("a",)),), True, ("a",), stand, 2)
        # A tie there and back again that is not ahead.
        stand = (tie("a", 0, 1, 1), tie("b", 1, 0, 2), tie("c", 1, 2, 3))
        self.rings((("b", ("a", "c", "c")),), False, ("a", "c"), stand, 3)
        self.rings((("b", ("a", "a", "a")),), True, ("a", "c"), stand, 3)

    def test_a_way_that_does_not_lead_there(self):
        # Not on, elsewhere, nowhere, from other to one, back to where it began.
        for way in (("b", "a"), ("a",), ("a", "b", "c"), (), ("f",), ("a", "f", "b"), ("c", "c"), ("b",), ("a", "a"), ("a", "b", "b")):
            self.rings(with_second(RINGS, 1, way), False)
        for way in (("a", "b", "c"), ("c", "b"), ("c", "b", "a", "a"), ("b", "a")):
            self.rings(with_second(RINGS, 0, way), False)
        self.rings(with_second(RINGS, 3, ("b", "c")), False)
        self.rings(with_second(RINGS, 2, ("f",) * 1000), False)

    def test_other_kinds(self):
        for way in (["a", "b"], "ab", {"a": "b"}, (("a",), "b"), ("a", ["b"]), (True, "b"), ("a", "b", None), None, 0, ("a", {}),
                    (("a", "b"),)):
            self.rings(with_second(RINGS, 1, way), False)
        for name in (["e"], ("e",), None, 4, True, {}, "E"):
            self.rings(RINGS[:1] + ((name, ("a", "b")),) + RINGS[2:], False)

    def test_any_things(self):
        for thing in ANY_THINGS:
            self.rings(RINGS, False, thing)
            self.rings(thing, False)
            self.rings(thing, False, thing)
            self.rings((thing,) + RINGS[1:], False)
            self.rings(RINGS + (thing,), False)
            self.rings(RINGS, False, FOREST + (thing,))
            self.rings(RINGS, thing == "a", (thing,) + FOREST[1:])
            for number, pair in enumerate(RINGS):
                self.rings(with_second(RINGS, number, thing), thing == pair[1])
                self.rings(with_second(RINGS, number, pair[1] + (thing,)), False)
                self.rings(RINGS[:number] + ((thing, pair[1]),) + RINGS[number + 1:], False)
            self.rings(with_second(RINGS, 1, (thing, "b")), thing == "a")
            # Of no ties one paper alone is right, for one forest.
            self.rings((), repr(thing) == "()", thing, (), 1)
            self.rings(thing, repr(thing) == "()", (), (), 1)


class CutsLetBy(Checked):
    def test_by_hand(self):
        self.cuts(CUTS, True)

    def test_of_no_ties(self):
        for many in (1, 2, 24):
            self.cuts((), True, (), (), many)

    def test_either_side_and_places_beside(self):
        # The other side; with the place that is alone; with the other part, whole.
        for number, places in (
            (0, (1,)), (0, (1, 2, 3, 4, 5, 6)), (0, (0, 6)), (0, (0, 4, 5)), (0, (0, 2)), (0, (0, 2, 3)), (1, (2,)), (1, (2, 3)),
            (1, (0, 1, 3)), (2, (0, 1, 2)), (2, (3, 6)), (2, (0, 1, 2, 4, 5, 6)), (3, (5,)), (3, (0, 4)), (3, (0, 1, 3, 4)),
        ):
            self.cuts(with_second(CUTS, number, places), True)

    def test_all_sets_of_places(self):
        key = {one[0]: (one[3], one[0]) for one in STAND}
        ties = {one[0]: one for one in STAND}
        for number, (name, right) in enumerate(CUTS):
            for places in subsets(range(MANY)):
                parted = [one for one in STAND if (one[1] in places) != (one[2] in places)]
                truth = ties[name] in parted and not any(key[one[0]] < key[name] for one in parted)
                self.assertIs(cuts_hold(MANY, STAND, FOREST, with_second(CUTS, number, places)), truth)

    def test_cuts_by_another_hand(self):
        for many, stand in some_stands(90):
            paper = []
            for name, places in cuts_for(many, stand):
                paper.append((name, tuple(place for place in range(many) if place not in places)))
            self.cuts(tuple(paper), True, lightest(many, stand), stand, many)


class CutsRefused(Checked):
    def test_a_forest_that_is_not_the_lightest(self):
        # A tie more, whatever places are told of it.
        for more in "degh":
            forest = tuple(sorted(FOREST + (more,)))
            self.cuts(CUTS, False, forest)
            for places in subsets(range(MANY)):
                self.assertIs(cuts_hold(MANY, STAND, forest, tuple(sorted(CUTS + ((more, places),)))), False)
        # One less: all places that are told are right.
        for less in FOREST:
            forest = tuple(name for name in FOREST if name != less)
            self.cuts(tuple(pair for pair in CUTS if pair[0] != less), False, forest)
            self.cuts(CUTS, False, forest)
        # Another one in its stead.
        for other, less in (("d", "c"), ("g", "f"), ("e", "b"), ("h", "c")):
            forest = tuple(sorted((set(FOREST) - {less}) | {other}))
            for places in subsets(range(MANY)):
                paper = tuple(sorted([pair for pair in CUTS if pair[0] != less] + [(other, places)]))
                self.assertIs(cuts_hold(MANY, STAND, forest, paper), False)

    def test_a_forest_that_is_no_rising_tuple_of_names(self):
        for forest in (
            ("b", "a", "c", "f"), FOREST[::-1], ("a", "a", "b", "c", "f"), ("a", "b", "c", "f", "z"), list(FOREST), "abcf",
            dict.fromkeys(FOREST), ("a", "b", "c", ("f",)), ("a", "b", "c", "f", None), ("a", "b", "c", ["f"]), (FOREST,), None,
        ):
            self.cuts(CUTS, False, forest)
            if isinstance(forest, (tuple, list)) and forest and isinstance(forest[0], str):
                # With a paper of just these names, too.
                pairs = dict(CUTS)
                self.cuts(tuple((name, pairs.get(name, (0,)) if isinstance(name, str) else (4,)) for name in forest), False, forest)

    def test_pairs_that_are_not_just_those(self):
        for number, pair in enumerate(CUTS):
            self.cuts(CUTS[:number] + CUTS[number + 1:], False)
            self.cuts(CUTS[:number] + (pair,) + CUTS[number:], False)
        self.cuts(CUTS[::-1], False)
        self.cuts((CUTS[1], CUTS[0]) + CUTS[2:], False)
        self.cuts(CUTS + (("g", (4,)),), False)
        self.cuts(CUTS + (("z", (4,)),), False)
        self.cuts((), False)
        for pair in (("a",), ("a", (0,), ()), ["a", (0,)], ((0,), "a"), ("z", (0,)), ("d", (0,)), ()):
            self.cuts((pair,) + CUTS[1:], False)
        for thing in (list(CUTS), dict(CUTS), None, True, "", 0):
            self.cuts(thing, False)

    def test_places_that_do_not_rise(self):
        self.cuts(with_second(CUTS, 1, (0, 1, 6)), True)
        for places in ((1, 0), (0, 0, 1), (0, 1, 1), (6, 0, 1), (0, 6, 1), (1, 0, 6)):
            self.cuts(with_second(CUTS, 1, places), False)

    def test_places_with_both_or_none_of_the_ties(self):
        for number, places in ((0, (0, 1)), (0, (0, 1, 2, 3)), (0, ()), (0, (6,)), (0, (2, 3)), (3, (4, 5)), (3, ()), (3, tuple(range(7)))):
            self.cuts(with_second(CUTS, number, places), False)

    def test_places_that_there_are_not(self):
        for places in ((0, 7), (-1, 0), (0, 24), (0, 10 ** 39), (-10 ** 39, 0)):
            self.cuts(with_second(CUTS, 0, places), False)
        self.cuts(with_second(CUTS, 0, (0, 6)), True)

    def test_places_out_of_which_a_tie_leads_that_is_ahead(self):
        # "a" leads out of 1 and of 0, and is ahead of "b" and "c"; "f" is ahead of all.
        for number, places in ((1, (1,)), (1, (0, 2)), (2, (0, 3)), (2, (1, 3)), (2, (2,)), (0, (0, 4)), (1, (0, 1, 5)), (2, (3, 5))):
            self.cuts(with_second(CUTS, number, places), False)
        # One of like weight, of an earlier name.
        stand = (tie("a", 0, 1, 1), tie("b", 1, 2, 1))
        self.cuts((("a", (0, 2)), ("b", (2,))), True, ("a", "b"), stand, 3)
        self.cuts((("a", (0,)), ("b", (0, 2))), False, ("a", "b"), stand, 3)

    def test_other_kinds(self):
        for places in ([0], {0: 0}, "0", 0, None, (False,), ((0,),), ([0],), (None,), ("0",), (0, None), (0, True), ({},)):
            self.cuts(with_second(CUTS, 0, places), False)
        self.cuts(with_second(CUTS, 0, (True,)), False)
        self.cuts(with_second(CUTS, 1, (0, True)), False)
        for name in (["a"], ("a",), None, 0, True, {}, "A"):
            self.cuts(((name, (0,)),) + CUTS[1:], False)

    def test_any_things(self):
        for thing in ANY_THINGS:
            self.cuts(CUTS, False, thing)
            self.cuts(thing, False)
            self.cuts(thing, False, thing)
            self.cuts((thing,) + CUTS[1:], False)
            self.cuts(CUTS + (thing,), False)
            self.cuts(CUTS, False, FOREST + (thing,))
            self.cuts(CUTS, thing == "a", (thing,) + FOREST[1:])
            # Two of the things tell places that part "a" and leave what is ahead of it whole.
            self.cuts(with_second(CUTS, 0, thing), repr(thing) in ("(1,)", "(1, 2, 3)"))
            self.cuts(with_second(CUTS, 3, thing), False)
            self.cuts(with_second(CUTS, 0, (0, thing)), is_number(thing) and thing == 2)
            self.cuts(with_second(CUTS, 0, (thing,)), is_number(thing) and thing in (0, 1))
            for number, pair in enumerate(CUTS):
                self.cuts(CUTS[:number] + ((thing, pair[1]),) + CUTS[number + 1:], thing == pair[0])
            self.cuts((), repr(thing) == "()", thing, (), 1)
            self.cuts(thing, repr(thing) == "()", (), (), 1)


class OfTheLightestAlone(unittest.TestCase):
    """[4]: whoever wrote a paper, it is let by for the lightest forest alone."""

    def ways(self, many, ties, one, other, most):
        """All ways of at most so many ties."""
        rows = [((), one)]
        for step in range(most):
            rows += [(way + (name,), a + b - here) for way, here in rows if len(way) == step
                     for name, a, b, weight in ties if here in (a, b)]
        return [way for way, here in rows if here == other]

    def test_all_papers_of_rings(self):
        for seed in range(40):
            many, stand = some_stand(seed, many=3 + seed % 2, ties=seed % 6, weights=2)
            right = lightest_by_taking_away(many, stand)
            for forest in subsets([one[0] for one in stand]):
                ties = [one for one in stand if one[0] in forest]
                others = [one for one in stand if one[0] not in forest]
                ways = [self.ways(many, ties, one[1], one[2], 3) for one in others]
                papers = [tuple(zip([one[0] for one in others], chosen)) for chosen in itertools.islice(itertools.product(*ways), 60)]
                told = any(rings_hold(many, stand, forest, paper) for paper in papers)
                self.assertIs(told, forest == right)

    def test_all_papers_of_cuts(self):
        for seed in range(24):
            many, stand = some_stand(seed, many=3, ties=seed % 5, weights=2)
            right = lightest_by_taking_away(many, stand)
            for forest in subsets([one[0] for one in stand]):
                sets = [list(subsets(range(many)))] * len(forest)
                papers = [tuple(zip(forest, chosen)) for chosen in itertools.product(*sets)]
                told = any(cuts_hold(many, stand, forest, paper) for paper in papers)
                self.assertIs(told, forest == right)

    def test_what_is_told_is_let_by_for_no_other_forest(self):
        dice = random.Random(9)
        for many, stand in some_stands(60):
            right = lightest(many, stand)
            names = [one[0] for one in stand]
            for turn in range(5):
                forest = tuple(sorted(dice.sample(names, dice.randint(0, len(names)))))
                self.assertIs(rings_hold(many, stand, forest, rings_for(many, stand)), forest == right)
                self.assertIs(cuts_hold(many, stand, forest, cuts_for(many, stand)), forest == right)


if __name__ == "__main__":
    unittest.main()
