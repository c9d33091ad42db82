"""[24], [4]: papers of ways and cuts, told and read."""

import itertools
import unittest

from asked import AGAIN, BRIEF, HISTORY, LIKE
from joinedever.papers import is_paper, paper_for
from layered import subsets
from samples import (
    LETTERS, ODD_THINGS, come, deep_thing, go, is_number, reach_reckoned, some_histories, stand_reckoned, stays_as_it_was,
    wide_thing,
)

# Behind five deeds: a chain of 0, 1, 2, "d" beside "a", and 3 with 4; 5 is alone. Then "b" goes, and "x" comes.
DEEDS = (
    come(1, "a", 0, 1), come(1, "b", 1, 2), come(2, "c", 3, 4), come(2, "d", 1, 0), come(3, "e", 2, 1), go(4, "b"), go(4, "e"),
    come(5, "x", 2, 3),
)
TOLD = (6, DEEDS)
CHAIN = (24, tuple(come(k, LETTERS[k], k, k + 1) for k in range(23)))
ANY_THINGS = ODD_THINGS + (
    0, 1, 2, -1, 10 ** 39, -10 ** 39, deep_thing(20), wide_thing(5000), "a", "joined", "parted", ("a",), (0,), (0, 1),
    ("joined",), ("parted", ()), ["joined", ("a",)], {"joined": ("a",)},
)


def is_way_reckoned(stand, one, other, way):
    """Whether names lead from one place to the other."""
    ties = {tie[0]: set(tie[1:3]) for tie in stand}
    here = {one}
    for name in way:
        if name not in ties or not here < ties[name]:
            return False
        here = ties[name] - here
    return here == {other}


def is_cut_reckoned(stand, one, other, cut):
    return one in cut and other not in cut and not any(len(set(tie[1:3]) & set(cut)) == 1 for tie in stand)


class Told(unittest.TestCase):
    def test_for_every_two_places_behind_every_number_of_deeds(self):
        for history in [TOLD, HISTORY, AGAIN, LIKE, BRIEF, (1, ()), (24, ())] + some_histories(20):
            many, deeds = history
            # Of many places all would take long, so some are left out.
            step = 1 if many < 8 else 7
            for n in range(0, len(deeds) + 1, step):
                stand = stand_reckoned(history, n)
                reach = reach_reckoned(many, stand)
                for one in range(many):
                    for other in range(0, many, step):
                        self.right(history, n, one, other, stand, reach[one][other])

    def right(self, history, n, one, other, stand, are_joined):
        told = stays_as_it_was(self, paper_for, history, n, one, other)
        self.assertEqual((type(told), len(told)), (tuple, 2))
        word, paper = told
        self.assertEqual(word, "joined" if are_joined else "parted")
        self.assertIs(type(paper), tuple)
        if are_joined:
            self.assertLessEqual(len(paper), 61)
            self.assertTrue(is_way_reckoned(stand, one, other, paper))
        else:
            self.assertTrue(all(is_number(place) and 0 <= place < history[0] for place in paper))
            self.assertEqual(paper, tuple(sorted(set(paper))))
            self.assertTrue(is_cut_reckoned(stand, one, other, paper))
        self.assertEqual(paper_for(history, n, one, other), told)
        self.assertIs(is_paper(history, n, one, other, told), True)

    def test_by_hand(self):
        self.assertEqual(paper_for((1, ()), 0, 0, 0), ("joined", ()))
        self.assertEqual(paper_for(TOLD, 0, 3, 3), ("joined", ()))
        self.assertEqual(paper_for(TOLD, 2, 2, 0), ("joined", ("b", "a")))
        self.assertEqual(paper_for(CHAIN, 23, 0, 23), ("joined", tuple(LETTERS[:23])))
        self.assertEqual(paper_for((2, ()), 0, 1, 0), ("parted", (1,)))
        self.assertEqual(paper_for((2, (come(1, "a"), go(1, "a"))), 1, 1, 0), ("joined", ("a",)))
        self.assertEqual(paper_for((2, (come(1, "a"), go(1, "a"))), 2, 1, 0), ("parted", (1,)))


class Checked(unittest.TestCase):
    def holds(self, thing, truth, one=0, other=2, n=5, history=TOLD):
        with self.subTest(thing=repr(thing)[:200], one=one, other=other, n=n):
            self.assertIs(stays_as_it_was(self, is_paper, history, n, one, other, thing), truth)


class WaysRead(Checked):
    def test_longer_ways_by_another_hand(self):
        for way in (
            ("a", "b"), ("d", "b"), ("a", "e"), ("d", "e"), ("a", "d", "a", "b"), ("a", "b", "e", "b"), ("d", "b", "b", "e"),
            ("a", "a", "a", "b"), ("d", "d", "a", "e"),
        ):
            self.holds(("joined", way), True)
            self.holds(("joined", way[::-1]), True, 2, 0)

    def test_of_a_place_with_itself(self):
        for place in range(6):
            for n in range(len(DEEDS) + 1):
                self.holds(("joined", ()), True, place, place, n)
        self.holds(("joined", ("a", "d")), True, 0, 0)
        self.holds(("joined", ("a", "a")), True, 1, 1)
        self.holds(("joined", ("a",)), False, 1, 1)
        for one, other in ((0, 1), (0, 2), (3, 4), (0, 5)):
            self.holds(("joined", ()), False, one, other)

    def test_of_sixty_one_names_and_one_more(self):
        self.holds(("joined", ("a",) * 61), True, 0, 1)
        self.holds(("joined", ("a",) * 59), True, 0, 1)
        self.holds(("joined", ("a",) * 63), False, 0, 1)
        self.holds(("joined", ("a", "d") * 30), True, 0, 0)
        self.holds(("joined", ("a", "d") * 31), False, 0, 0)
        self.holds(("joined", ("a",) * 59 + ("b",)), True)
        self.holds(("joined", ("a",) * 61 + ("b",)), False)
        self.holds(("joined", ("a",) * 3001), False, 0, 1)

    def test_that_does_not_lead_on(self):
        for way in (("b", "a"), ("a", "c"), ("a", "c", "b"), ("c", "a", "b"), ("a", "b", "c"), ("a", "a", "b")):
            self.holds(("joined", way), False)

    def test_that_ends_elsewhere(self):
        for way in (("a",), ("a", "b", "b"), ("a", "b", "b", "a"), ("a", "a"), ()):
            self.holds(("joined", way), False)
            self.holds(("joined", way), way == ("a",), 0, 1, 1)

    def test_that_begins_elsewhere(self):
        self.holds(("joined", ("b",)), False)
        self.holds(("joined", ("e",)), False)
        self.holds(("joined", ("b",)), True, 1, 2)
        self.holds(("joined", ("a", "b")), False, 1, 2)

    def test_a_tie_that_is_not_there_then(self):
        for n in range(len(DEEDS) + 1):
            self.holds(("joined", ("a", "b")), 2 <= n <= 5, n=n)
            self.holds(("joined", ("d", "e")), 5 <= n <= 6, n=n)
            self.holds(("joined", ("x",)), n == 8, 2, 3, n)
            self.holds(("joined", ("z",)), False, n=n)
        # Of one name and other places.
        self.holds(("joined", ("a",)), True, 0, 1, 1, AGAIN)
        self.holds(("joined", ("a",)), False, 0, 1, 2, AGAIN)
        self.holds(("joined", ("a",)), False, 0, 1, 3, AGAIN)
        self.holds(("joined", ("a",)), True, 3, 2, 3, AGAIN)

    def test_lists_for_tuples(self):
        for thing in (["joined", ("a", "b")], ("joined", ["a", "b"]), ("joined", "ab"), ("joined", {"a": 1, "b": 2})):
            self.holds(thing, False)
        self.holds(("joined", []), False, 0, 0)
        self.holds(("joined", ""), False, 0, 0)
        self.holds(("joined", None), False, 0, 0)

    def test_all_names_of_at_most_four(self):
        stand = stand_reckoned(TOLD, 5)
        for length in range(5):
            for way in itertools.product("abcdex", repeat=length):
                for one, other in ((0, 2), (2, 2), (3, 4), (0, 5)):
                    self.assertIs(is_paper(TOLD, 5, one, other, ("joined", way)), is_way_reckoned(stand, one, other, way))


class CutsRead(Checked):
    def test_other_cuts(self):
        for cut in ((0, 1, 2), (0, 1, 2, 5)):
            self.holds(("parted", cut), True, 0, 3)
            self.holds(("parted", cut), True, 2, 4)
        self.holds(("parted", (0, 1, 2, 3, 4)), True, 0, 5)
        self.holds(("parted", (5,)), True, 5, 0)
        self.holds(("parted", (3, 4, 5)), True, 5, 0)

    def test_all_rising_tuples_of_places(self):
        for n in range(len(DEEDS) + 1):
            stand = stand_reckoned(TOLD, n)
            for cut in subsets(range(6)):
                for one, other in ((0, 3), (2, 0), (5, 4), (1, 1)):
                    self.assertIs(is_paper(TOLD, n, one, other, ("parted", cut)), is_cut_reckoned(stand, one, other, cut))

    def test_not_rising(self):
        for cut in ((1, 0, 2), (2, 1, 0), (0, 0, 1, 2), (0, 1, 2, 2), (0, 1, 5, 2), (5, 0, 1, 2)):
            self.holds(("parted", cut), False, 0, 3)

    def test_a_place_that_there_is_not(self):
        for cut in ((0, 1, 2, 6), (-1, 0, 1, 2), (0, 1, 2, 24), (0, 1, 2, 10 ** 39), (-10 ** 39, 0, 1, 2)):
            self.holds(("parted", cut), False, 0, 3)

    def test_a_truth_for_a_place(self):
        for cut in ((False, 1, 2), (0, True, 2), (False, True, 2)):
            self.holds(("parted", cut), False, 0, 3)
        self.holds(("parted", (0,)), True, 0, 1, 0)
        self.holds(("parted", (False,)), False, 0, 1, 0)
        self.holds(("parted", (1,)), True, 1, 0, 0)
        self.holds(("parted", (True,)), False, 1, 0, 0)

    def test_without_the_first_place(self):
        for cut in ((), (5,), (3, 4), (3, 4, 5)):
            self.holds(("parted", cut), False, 0, 3)
        self.holds(("parted", (3, 4)), False, 0, 5)
        self.holds(("parted", (3, 4)), True, 3, 5)

    def test_with_the_other_place(self):
        self.holds(("parted", (0, 1, 2, 3, 4)), False, 0, 3)
        self.holds(("parted", tuple(range(6))), False, 0, 3)
        self.holds(("parted", (0, 1, 2)), False, 0, 1)

    def test_of_a_place_with_itself(self):
        for place in range(6):
            for cut in ((), (place,), tuple(range(6)), (0, 1, 2), (3, 4), (5,)):
                self.holds(("parted", cut), False, place, place)

    def test_out_of_which_a_tie_leads_then(self):
        for cut in ((0,), (0, 1), (0, 2), (0, 1, 2, 4)):
            self.holds(("parted", cut), False, 0, 3)
        for n in range(len(DEEDS) + 1):
            self.holds(("parted", (0,)), n == 0, 0, 3, n)
            self.holds(("parted", (0, 1)), n in (0, 1, 7, 8), 0, 3, n)
            self.holds(("parted", (0, 1, 2)), n < 8, 0, 3, n)

    def test_lists_for_tuples(self):
        for thing in (["parted", (0, 1, 2)], ("parted", [0, 1, 2]), ("parted", {0: 0, 1: 1, 2: 2}), ("parted", "012")):
            self.holds(thing, False, 0, 3)


class OtherThings(Checked):
    def test_the_word_of_the_other_kind_and_another_one(self):
        self.holds(("parted", ("a", "b")), False)
        self.holds(("joined", (0, 1, 2)), False, 0, 3)
        for word in ("join", "Joined", "joined ", "", "cut", "way", "part", None, 0, True, ("joined",), ["parted"], {}):
            self.holds((word, ("a", "b")), False)
            self.holds((word, (0, 1, 2)), False, 0, 3)
            self.holds((word, ()), False, 0, 0)
        self.holds((("a", "b"), "joined"), False)

    def test_tuples_of_another_length(self):
        self.holds((), False)
        self.holds(("joined",), False, 0, 0)
        self.holds(("joined", ("a", "b"), ()), False)
        self.holds(("joined", "a", "b"), False)
        self.holds(("parted", (0, 1, 2), (3, 4, 5)), False, 0, 3)
        self.holds(("parted", 0, 1, 2), False, 0, 3)

    def test_any_things(self):
        for thing in ANY_THINGS:
            for one, other in ((0, 2), (0, 3)):
                self.holds(thing, False, one, other)
                # One of the things is a way from 0 to 2.
                self.holds(("joined", thing), repr(thing) == "('a', 'b')" and other == 2, one, other)
                self.holds(("parted", thing), False, one, other)
                self.holds((thing, thing), False, one, other)
            self.holds((thing, ("a", "b")), thing == "joined")
            self.holds((thing, (0, 1, 2)), thing == "parted", 0, 3)
            self.holds(("joined", (thing, "b")), thing == "a")
            self.holds(("joined", ("a", thing)), False)
            self.holds(("joined", (thing,)), False)
            self.holds(("parted", (thing, 1, 2)), is_number(thing) and thing == 0, 0, 3)
            self.holds(("parted", (0, thing, 2)), is_number(thing) and thing == 1, 0, 3)
            self.holds(("parted", (0, 1, thing)), is_number(thing) and thing == 2, 0, 3)
            self.holds(("joined", thing), repr(thing) == "()", 0, 0)

    def test_just_one_of_the_words_can_be_right(self):
        for history in (TOLD, LIKE):
            many, deeds = history
            for n in range(len(deeds) + 1):
                names = [tie[0] for tie in stand_reckoned(history, n)]
                ways = [way for length in range(5) for way in itertools.product(names, repeat=length)][:400]
                for one, other in itertools.product(range(many), repeat=2):
                    joined = any(is_paper(history, n, one, other, ("joined", way)) for way in ways)
                    parted = any(is_paper(history, n, one, other, ("parted", cut)) for cut in subsets(range(many)))
                    self.assertEqual(joined + parted, 1)


if __name__ == "__main__":
    unittest.main()
