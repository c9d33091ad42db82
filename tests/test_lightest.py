"""[18]: which tie is ahead, and lightest forests."""

import unittest

from joinedever.lightest import is_ahead, lightest
from light import is_ringless, lightest_by_taking_away, lightest_of_all, some_stand, some_stands, tie
from layered import parts_reckoned
from samples import MOST, stays_as_it_was


class Ahead(unittest.TestCase):
    def ahead(self, one, other):
        self.assertIs(stays_as_it_was(self, is_ahead, one, other), True)
        self.assertIs(stays_as_it_was(self, is_ahead, other, one), False)

    def test_of_unlike_weights(self):
        self.ahead(tie("b", 0, 1, 2), tie("a", 0, 1, 3))
        self.ahead(tie("a", 5, 1, 2), tie("b", 0, 1, 3))
        self.ahead(tie("z", 9, 8, 0), tie("a", 0, 1, MOST))
        self.ahead(tie("z", 9, 8, 9), tie("a", 0, 1, 10))

    def test_of_like_weights(self):
        for weight in (0, 7, MOST):
            self.ahead(tie("a", 5, 4, weight), tie("b", 0, 1, weight))
            self.ahead(tie("a", 5, 4, weight), tie("aa", 0, 1, weight))
            self.ahead(tie("az", 5, 4, weight), tie("b", 0, 1, weight))
            self.ahead(tie("zy", 5, 4, weight), tie("zz", 0, 1, weight))

    def test_of_a_tie_and_itself(self):
        self.assertIs(is_ahead(tie("a", 0, 1, 3), tie("a", 0, 1, 3)), False)


class Lightest(unittest.TestCase):
    def told(self, many, stand, forest):
        self.assertEqual(stays_as_it_was(self, lightest, many, stand), forest)

    def test_of_no_ties(self):
        for many in (1, 2, 24):
            self.told(many, (), ())

    def test_of_ties_without_a_ring(self):
        self.told(4, (tie("a", 0, 1, 9), tie("b", 2, 1, 0), tie("c", 2, 3, 5)), ("a", "b", "c"))

    def test_of_two_ties_of_like_places(self):
        self.told(2, (tie("a", 0, 1, 3), tie("b", 1, 0, 2)), ("b",))
        self.told(2, (tie("a", 0, 1, 2), tie("b", 1, 0, 3)), ("a",))
        self.told(2, (tie("a", 0, 1, 3), tie("b", 1, 0, 3)), ("a",))
        self.told(2, (tie("a", 0, 1, 9), tie("b", 0, 1, 9), tie("c", 0, 1, 0)), ("c",))

    def test_of_rings(self):
        for heavy in range(5):
            stand = tuple(tie("abcde"[k], k, (k + 1) % 5, 7 if k == heavy else 6) for k in range(5))
            self.told(5, stand, tuple(name for name in "abcde" if name != "abcde"[heavy]))
        # Of like weights the last name is left out.
        self.told(5, tuple(tie("abcde"[k], k, (k + 1) % 5, 6) for k in range(5)), ("a", "b", "c", "d"))

    def test_of_several_parts(self):
        stand = (
            tie("a", 0, 1, 5), tie("b", 1, 2, 4), tie("c", 2, 0, 3), tie("d", 4, 5, 9), tie("e", 5, 6, 1), tie("f", 6, 4, 2),
        )
        self.told(8, stand, ("b", "c", "e", "f"))

    def test_names_tell_where_weights_are_alike(self):
        # By weights alone any two would do.
        self.told(3, (tie("b", 0, 1, 1), tie("ba", 1, 2, 1), tie("c", 2, 0, 1)), ("b", "ba"))

    def test_against_all_sets_of_ties(self):
        for seed in range(120):
            many, stand = some_stand(seed, many=2 + seed % 5, ties=seed % 9, weights=seed % 4)
            self.told(many, stand, lightest_of_all(many, stand))

    def test_over_many(self):
        for many, stand in some_stands(120):
            self.told(many, stand, lightest_by_taking_away(many, stand))

    def test_it_has_no_ring_and_joins_what_the_stand_joins(self):
        for many, stand in some_stands(120):
            forest = lightest(many, stand)
            self.assertIs(type(forest), tuple)
            self.assertEqual(forest, tuple(sorted(set(forest))))
            ties = [one for one in stand if one[0] in forest]
            self.assertEqual(len(ties), len(forest))
            self.assertTrue(is_ringless(many, ties))
            self.assertEqual(parts_reckoned(many, ties), parts_reckoned(many, stand))
            self.assertEqual(forest, lightest(many, stand))

    def test_sixty_ties_and_all_places(self):
        many, stand = some_stand(7, many=24, ties=60)
        self.assertEqual(len(stand), 60)
        self.told(many, stand, lightest_by_taking_away(many, stand))


if __name__ == "__main__":
    unittest.main()
