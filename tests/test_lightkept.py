"""[20], [4]: lightest forests kept through comings and goings."""

import random
import unittest

from asked import AGAIN, BRIEF, HISTORY, LIKE, full_history, ring
from joinedever.lightest import lightest
from joinedever.lightkept import light_came, light_gone, lights_of
from light import lightest_by_taking_away, some_stand, some_stands, tie
from samples import MOST, come, go, some_histories, some_history, stand_reckoned, stays_as_it_was

# A square 0, 1, 2, 3 without its last tie; 4 and 5 are tied, too.
STAND = (tie("b", 0, 1, 3), tie("d", 1, 2, 5), tie("f", 2, 3, 4), tie("h", 4, 5, 9))
FOREST = ("b", "d", "f", "h")
# A square with all its ties and both lines across, and two ties of like places.
FULL = (
    tie("a", 0, 1, 1), tie("b", 1, 2, 2), tie("c", 2, 3, 3), tie("d", 3, 0, 4), tie("e", 0, 2, 5), tie("f", 1, 3, 5),
    tie("g", 4, 5, 1), tie("h", 5, 4, 1),
)


def without(stand, name):
    return tuple(one for one in stand if one[0] != name)


class Told(unittest.TestCase):
    def came(self, many, stand, coming, forest, leaving):
        ahead = lightest_by_taking_away(many, stand)
        told = stays_as_it_was(self, light_came, many, stand, ahead, coming)
        self.assertEqual(repr(told), repr((forest, leaving)))
        self.assertEqual(repr(light_came(many, stand, ahead, coming)), repr(told))
        self.assertEqual(forest, lightest(many, tuple(sorted(stand + (coming,)))))

    def gone(self, many, stand, name, forest, coming):
        ahead = lightest_by_taking_away(many, stand)
        told = stays_as_it_was(self, light_gone, many, stand, ahead, name)
        self.assertEqual(repr(told), repr((forest, coming)))
        self.assertEqual(repr(light_gone(many, stand, ahead, name)), repr(told))
        self.assertEqual(forest, lightest(many, without(stand, name)))


class Came(Told):
    def test_to_a_stand_without_ties(self):
        for many in (2, 24):
            self.came(many, (), tie("a", 0, 1, 0), ("a",), None)
            self.came(many, (), tie("zzzzzzzz", many - 1, 0, MOST), ("zzzzzzzz",), None)

    def test_of_places_that_were_not_joined(self):
        self.came(7, STAND, tie("a", 3, 4, 7), ("a", "b", "d", "f", "h"), None)
        self.came(7, STAND, tie("e", 5, 0, MOST), ("b", "d", "e", "f", "h"), None)
        self.came(7, STAND, tie("z", 6, 2, 0), ("b", "d", "f", "h", "z"), None)

    def test_one_that_is_taken_so_that_another_one_leaves(self):
        self.came(7, STAND, tie("a", 3, 0, 0), ("a", "b", "f", "h"), "d")
        self.came(7, STAND, tie("z", 3, 0, 4), ("b", "f", "h", "z"), "d")
        self.came(7, STAND, tie("e", 0, 2, 1), ("b", "e", "f", "h"), "d")
        # The heaviest of the ring leaves, not the heaviest of all.
        self.came(7, STAND, tie("e", 3, 2, 1), ("b", "d", "e", "h"), "f")

    def test_one_that_is_not_taken(self):
        self.came(7, STAND, tie("a", 3, 0, 6), FOREST, "a")
        self.came(7, STAND, tie("z", 0, 2, 7), FOREST, "z")
        self.came(7, STAND, tie("e", 1, 0, 4), FOREST, "e")

    def test_like_weights_where_names_decide(self):
        # "d" weighs 5, too.
        self.came(7, STAND, tie("c", 3, 0, 5), ("b", "c", "f", "h"), "d")
        self.came(7, STAND, tie("e", 3, 0, 5), FOREST, "e")
        self.came(7, STAND, tie("da", 3, 0, 5), FOREST, "da")
        self.came(7, STAND, tie("cz", 3, 0, 5), ("b", "cz", "f", "h"), "d")
        like = (tie("b", 0, 1, 2), tie("c", 1, 2, 2))
        self.came(3, like, tie("a", 2, 0, 2), ("a", "b"), "c")
        self.came(3, like, tie("d", 2, 0, 2), ("b", "c"), "d")

    def test_of_like_places_with_one_that_is_there(self):
        self.came(7, STAND, tie("a", 0, 1, 2), ("a", "d", "f", "h"), "b")
        self.came(7, STAND, tie("a", 1, 0, 3), ("a", "d", "f", "h"), "b")
        self.came(7, STAND, tie("c", 1, 0, 3), FOREST, "c")
        self.came(7, STAND, tie("c", 0, 1, 4), FOREST, "c")
        self.came(2, (tie("a", 0, 1, 1), tie("b", 0, 1, 2)), tie("c", 1, 0, 0), ("c",), "a")

    def test_ties_out_of_the_forest_change_nothing(self):
        # "d", "e" and "f" are heavier than those of the forest, and none of them leaves it.
        self.came(6, FULL, tie("z", 0, 3, 2), ("a", "b", "g", "z"), "c")
        self.came(6, FULL, tie("z", 0, 3, 3), ("a", "b", "c", "g"), "z")

    def test_to_fifty_nine_ties(self):
        for seed in range(8):
            many, stand = some_stand(seed, many=24, ties=60, weights=(0, 3, MOST)[seed % 3])
            for number in (0, 13, 59):
                ahead = stand[:number] + stand[number + 1:]
                self.assertEqual(len(ahead), 59)
                told = light_came(many, ahead, lightest(many, ahead), stand[number])
                self.assertEqual(told[0], lightest_by_taking_away(many, stand))

    def test_over_many(self):
        seen = set()
        for seed, (many, stand) in enumerate(some_stands(120)):
            dice = random.Random(seed)
            for one in dice.sample(stand, min(len(stand), 6)):
                ahead = without(stand, one[0])
                forest = lightest_by_taking_away(many, ahead)
                told = stays_as_it_was(self, light_came, many, ahead, forest, one)
                behind = lightest_by_taking_away(many, stand)
                left = sorted(set(forest + (one[0],)) - set(behind))
                self.assertEqual(repr(told), repr((behind, left[0] if left else None)))
                self.assertLessEqual(len(left), 1)
                self.assertEqual(told[0], tuple(sorted(set(told[0]))))
                seen.add("own" if left == [one[0]] else "other" if left else None)
        self.assertEqual(seen, {"own", "other", None})


class Gone(Told):
    def test_one_out_of_the_forest(self):
        for name in "defh":
            self.gone(6, FULL, name, ("a", "b", "c", "g"), None)

    def test_one_of_the_forest_with_none_in_its_stead(self):
        self.gone(7, STAND, "b", ("d", "f", "h"), None)
        self.gone(7, STAND, "d", ("b", "f", "h"), None)
        self.gone(7, STAND, "h", ("b", "d", "f"), None)

    def test_with_one_in_its_stead(self):
        self.gone(6, FULL, "g", ("a", "b", "c", "h"), "h")
        stand = STAND + (tie("z", 0, 3, 8),)
        for name, forest in (("b", ("d", "f", "h", "z")), ("d", ("b", "f", "h", "z")), ("f", ("b", "d", "h", "z"))):
            self.gone(7, stand, name, forest, "z")
        self.gone(7, stand, "h", ("b", "d", "f"), None)

    def test_with_several_in_its_stead(self):
        # Over the gap of "a" lead "d" and "e", over that of "b" "f", too, over that of "c" "d" and "f".
        self.gone(6, FULL, "a", ("b", "c", "d", "g"), "d")
        self.gone(6, FULL, "b", ("a", "c", "d", "g"), "d")
        self.gone(6, FULL, "c", ("a", "b", "d", "g"), "d")
        self.gone(6, without(FULL, "d"), "a", ("b", "c", "e", "g"), "e")
        # The lighter one comes though its name is later.
        stand = (tie("a", 0, 1, 0), tie("b", 1, 0, 9), tie("c", 0, 1, 8), tie("d", 0, 1, 9))
        self.gone(2, stand, "a", ("c",), "c")

    def test_of_like_weights_the_lesser_name_comes(self):
        stand = (tie("a", 1, 0, 7), tie("aa", 0, 1, 7), tie("b", 0, 1, 7), tie("m", 0, 1, 3))
        self.gone(2, stand, "m", ("a",), "a")
        self.gone(2, without(stand, "a"), "m", ("aa",), "aa")
        stand = (tie("k", 0, 1, 0), tie("x", 1, 2, 4), tie("y", 2, 0, 4), tie("z", 0, 2, 4))
        self.gone(3, stand, "k", ("x", "y"), "y")
        self.gone(3, stand, "x", ("k", "y"), "y")

    def test_the_last_tie(self):
        for many in (2, 24):
            self.gone(many, (tie("a", 0, 1, 5),), "a", (), None)
            self.gone(many, (tie("zz", many - 1, 0, MOST),), "zz", (), None)

    def test_over_many(self):
        seen = set()
        for seed, (many, stand) in enumerate(some_stands(120)):
            dice = random.Random(seed)
            forest = lightest_by_taking_away(many, stand)
            for one in dice.sample(stand, min(len(stand), 8)):
                told = stays_as_it_was(self, light_gone, many, stand, forest, one[0])
                behind = lightest_by_taking_away(many, without(stand, one[0]))
                new = sorted(set(behind) - set(forest))
                self.assertEqual(repr(told), repr((behind, new[0] if new else None)))
                self.assertLessEqual(len(new), 1)
                self.assertEqual(told[0], tuple(sorted(set(told[0]))))
                seen.add((one[0] in forest, bool(new)))
        self.assertEqual(seen, {(False, False), (True, False), (True, True)})

    def test_a_tie_that_comes_and_goes_leaves_all_as_it_was(self):
        for seed in range(60):
            many, stand = some_stand(seed, many=2 + seed % 9, ties=seed % 20, weights=seed % 4)
            forest = lightest(many, stand)
            coming = tie("m", *random.Random(seed).sample(range(many), 2), seed % 3)
            behind = tuple(sorted(stand + (coming,)))
            told = light_came(many, stand, forest, coming)[0]
            self.assertEqual(light_gone(many, behind, told, "m")[0], forest)


class Lights(unittest.TestCase):
    def test_of_no_deeds(self):
        for many in (1, 2, 24):
            self.assertEqual(repr(stays_as_it_was(self, lights_of, (many, ()))), "((),)")

    def test_by_hand(self):
        deeds = (
            come(1, "a", 0, 1, 5), come(1, "b", 1, 2, 6), come(2, "c", 2, 0, 4), come(2, "d", 0, 1, 9), go(3, "c"), go(3, "a"),
            go(4, "b"), go(5, "d"),
        )
        forests = ((), ("a",), ("a", "b"), ("a", "c"), ("a", "c"), ("a", "b"), ("b", "d"), ("d",), ())
        self.assertEqual(lights_of((4, deeds)), forests)

    def test_ties_that_come_again_with_other_places_and_weights(self):
        deeds = (
            come(1, "a", 0, 1, 5), come(1, "b", 1, 2, 5), come(1, "c", 2, 0, 5), go(2, "a"), come(2, "a", 2, 1, 4),
            go(3, "a"), come(3, "a", 0, 1, 9), go(4, "c"), come(4, "c", 0, 1, 9),
        )
        forests = (
            (), ("a",), ("a", "b"), ("a", "b"), ("b", "c"), ("a", "c"), ("b", "c"), ("b", "c"), ("a", "b"), ("a", "b"),
        )
        self.assertEqual(lights_of((3, deeds)), forests)

    def test_each_is_that_of_the_stand_alone(self):
        histories = some_histories(60) + [HISTORY, AGAIN, LIKE, BRIEF, full_history(), ring(24, 24)]
        # Few names and places, so that ties often come again and rings are many.
        histories += [some_history(seed, many=3 + seed % 4, names="abcdefgh", gap=1) for seed in range(12)]
        for history in histories:
            many, deeds = history
            told = stays_as_it_was(self, lights_of, history)
            self.assertIs(type(told), tuple)
            self.assertEqual(len(told), len(deeds) + 1)
            for n, forest in enumerate(told):
                stand = stand_reckoned(history, n)
                self.assertEqual(repr(forest), repr(lightest(many, stand)))
                self.assertEqual(forest, lightest_by_taking_away(many, stand))
            self.assertEqual(told, lights_of(history))

    def test_a_beginning_is_told_as_the_whole(self):
        many, deeds = some_history(5, many=6, names="abcdefghijkl")
        told = lights_of((many, deeds))
        for n in range(len(deeds) + 1):
            self.assertEqual(lights_of((many, deeds[:n])), told[:n + 1])


if __name__ == "__main__":
    unittest.main()
