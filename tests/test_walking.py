"""[7]: joined places and parts, by a plain walk."""

import unittest

from joinedever.walking import are_joined, part_of, parts_of, steps_from
from samples import is_number, reach_reckoned, some_histories, stand_reckoned, stays_as_it_was

CHAIN = tuple(sorted((chr(97 + k), k, k + 1, 0) for k in range(23)))
# The same chain, each second tie told from its greater place.
TURNED = tuple((name, other, one, weight) if one % 2 else (name, one, other, weight) for name, one, other, weight in CHAIN)
TWO_PARTS = (("a", 0, 3, 1), ("b", 3, 5, 1), ("c", 4, 1, 1))


class Joined(unittest.TestCase):
    def test_a_place_with_itself(self):
        self.assertIs(are_joined(1, (), 0, 0), True)
        for place in range(6):
            self.assertIs(are_joined(6, (), place, place), True)
            self.assertIs(are_joined(6, TWO_PARTS, place, place), True)

    def test_either_way_about(self):
        stand = (("a", 0, 1, 0), ("b", 2, 1, 0))
        for one in range(3):
            for other in range(3):
                self.assertIs(are_joined(3, stand, one, other), True)

    def test_along_a_chain_of_all_places(self):
        for stand in (CHAIN, TURNED):
            self.assertIs(are_joined(24, stand, 0, 23), True)
            self.assertIs(are_joined(24, stand, 23, 0), True)

    def test_a_chain_without_one_tie(self):
        for gap in range(23):
            stand = CHAIN[:gap] + CHAIN[gap + 1:]
            self.assertIs(are_joined(24, stand, 0, 23), False)
            self.assertIs(are_joined(24, stand, gap, gap + 1), False)
            self.assertIs(are_joined(24, stand, 0, gap), True)
            self.assertIs(are_joined(24, stand, 23, gap + 1), True)

    def test_two_ties_between_the_same_places(self):
        stand = (("a", 0, 1, 0), ("b", 1, 0, 5))
        self.assertIs(are_joined(3, stand, 0, 1), True)
        self.assertIs(are_joined(3, stand, 1, 0), True)
        self.assertIs(are_joined(3, stand, 1, 2), False)
        self.assertIs(are_joined(3, stand, 2, 0), False)

    def test_without_ties(self):
        self.assertIs(are_joined(2, (), 0, 1), False)

    def test_a_ring(self):
        ring = CHAIN[:4] + (("z", 4, 0, 0),)
        for one in range(6):
            self.assertIs(are_joined(6, ring, one, 0), one < 5)


class Parts(unittest.TestCase):
    def test_part_of_a_place(self):
        for place in (0, 3, 5):
            self.assertEqual(part_of(6, TWO_PARTS, place), (0, 3, 5))
        for place in (1, 4):
            self.assertEqual(part_of(6, TWO_PARTS, place), (1, 4))
        self.assertEqual(part_of(6, TWO_PARTS, 2), (2,))

    def test_part_of_a_chain(self):
        for place in range(24):
            self.assertEqual(part_of(24, TURNED, place), tuple(range(24)))

    def test_parts_by_their_least_places(self):
        self.assertEqual(parts_of(6, TWO_PARTS), ((0, 3, 5), (1, 4), (2,)))
        self.assertEqual(parts_of(4, (("a", 3, 0, 0), ("b", 2, 1, 0))), ((0, 3), (1, 2)))
        self.assertEqual(parts_of(24, CHAIN), (tuple(range(24)),))

    def test_without_ties_each_place_alone(self):
        for many in range(1, 25):
            self.assertEqual(parts_of(many, ()), tuple((place,) for place in range(many)))
            for place in range(many):
                self.assertEqual(part_of(many, (), place), (place,))

    def test_two_ties_between_the_same_places(self):
        self.assertEqual(parts_of(3, (("a", 2, 1, 0), ("b", 1, 2, 0))), ((0,), (1, 2)))


class Steps(unittest.TestCase):
    def test_the_fewest_ties_to_each_place(self):
        ring = CHAIN[:5] + (("z", 5, 0, 0),)
        self.assertEqual(steps_from(7, ring, 0), [0, 1, 2, 3, 2, 1, None])
        self.assertEqual(steps_from(7, ring, 4), [2, 3, 2, 1, 0, 1, None])
        self.assertEqual(steps_from(7, ring, 6), [None] * 6 + [0])
        # Two ways to 3, the one told later is the shorter one.
        stand = (("a", 0, 1, 0), ("b", 1, 2, 0), ("c", 2, 3, 0), ("d", 0, 3, 0), ("e", 3, 4, 0))
        self.assertEqual(steps_from(5, stand, 0), [0, 1, 2, 1, 2])


class Many(unittest.TestCase):
    def test_stands_of_many_histories(self):
        for history in some_histories():
            many = history[0]
            for n in range(0, len(history[1]) + 1, 7):
                stand = stand_reckoned(history, n)
                reach = reach_reckoned(many, stand)
                parts = [tuple(other for other in range(many) if reach[one][other]) for one in range(many)]
                for one in range(many):
                    self.assertEqual(stays_as_it_was(self, part_of, many, stand, one), parts[one])
                    for other in range(many):
                        told = stays_as_it_was(self, are_joined, many, stand, one, other)
                        self.assertIs(told, reach[one][other])
                self.assertEqual(stays_as_it_was(self, parts_of, many, stand), tuple(sorted(set(parts))))

    def test_kinds_of_what_is_told(self):
        part = part_of(6, TWO_PARTS, 3)
        parts = parts_of(6, TWO_PARTS)
        self.assertIs(type(part), tuple)
        self.assertIs(type(parts), tuple)
        self.assertTrue(all(is_number(place) for place in part))
        for part in parts:
            self.assertIs(type(part), tuple)
            self.assertTrue(all(is_number(place) for place in part))


if __name__ == "__main__":
    unittest.main()
