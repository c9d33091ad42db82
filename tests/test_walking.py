"""[7]: joined places and parts, by a plain walk."""

import unittest

from joinedever.walking import are_joined, has_ring, leads, part_of, parts_of, ways_from
from samples import is_number, reach_reckoned, some_histories, stand_reckoned, stays_as_it_was

CHAIN = tuple(sorted((chr(97 + k), k, k + 1, 0) for k in range(23)))
# The same chain, each second tie told from its greater place.
TURNED = tuple((name, other, one, weight) if one % 2 else (name, one, other, weight) for name, one, other, weight in CHAIN)
TWO_PARTS = (("a", 0, 3, 1), ("b", 3, 5, 1), ("c", 4, 1, 1))


class Joined(unittest.TestCase):
    def test_a_place_with_itself(self):
        self.assertIs(are_joined(1, (), 0, 0), True)
        for place in range(6):
            self.assertIs(are_joined(6, (), place, place), True)
            self.assertIs(are_joined(6, TWO_PARTS, place, place), True)

    def test_either_way_about(self):
        stand = (("a", 0, 1, 0), ("b", 2, 1, 0))
        for one in range(3):
            for other in range(3):
                self.assertIs(are_joined(3, stand, one, other), True)

    def test_along_a_chain_of_all_places(self):
        for stand in (CHAIN, TURNED):
            self.assertIs(are_joined(24, stand, 0, 23), True)
            self.assertIs(are_joined(24, stand, 23, 0), True)

    def test_a_chain_without_one_tie(self):
        for gap in range(23):
            stand = CHAIN[:gap] + CHAIN[gap + 1:]
            self.assertIs(are_joined(24, stand, 0, 23), False)
            self.assertIs(are_joined(24, stand, gap, gap + 1), False)
            self.assertIs(are_joined(24, stand, 0, gap), True)
            self.assertIs(are_joined(24, stand, 23, gap + 1), True)

    def test_two_ties_between_the_same_places(self):
        stand = (("a", 0, 1, 0), ("b", 1, 0, 5))
        self.assertIs(are_joined(3, stand, 0, 1), True)
        self.assertIs(are_joined(3, stand, 1, 0), True)
        self.assertIs(are_joined(3, stand, 1, 2), False)
        self.assertIs(are_joined(3, stand, 2, 0), False)

    def test_without_ties(self):
        self.assertIs(are_joined(2, (), 0, 1), False)

    def test_a_ring(self):
        ring = CHAIN[:4] + (("z", 4, 0, 0),)
        for one in range(6):
            self.assertIs(are_joined(6, ring, one, 0), one < 5)


class Parts(unittest.TestCase):
    def test_part_of_a_place(self):
        for place in (0, 3, 5):
            self.assertEqual(part_of(6, TWO_PARTS, place), (0, 3, 5))
        for place in (1, 4):
            self.assertEqual(part_of(6, TWO_PARTS, place), (1, 4))
        self.assertEqual(part_of(6, TWO_PARTS, 2), (2,))

    def test_part_of_a_chain(self):
        for place in range(24):
            self.assertEqual(part_of(24, TURNED, place), tuple(range(24)))

    def test_parts_by_their_least_places(self):
        self.assertEqual(parts_of(6, TWO_PARTS), ((0, 3, 5), (1, 4), (2,)))
        self.assertEqual(parts_of(4, (("a", 3, 0, 0), ("b", 2, 1, 0))), ((0, 3), (1, 2)))
        self.assertEqual(parts_of(24, CHAIN), (tuple(range(24)),))

    def test_without_ties_each_place_alone(self):
        for many in range(1, 25):
            self.assertEqual(parts_of(many, ()), tuple((place,) for place in range(many)))
            for place in range(many):
                self.assertEqual(part_of(many, (), place), (place,))

    def test_two_ties_between_the_same_places(self):
        self.assertEqual(parts_of(3, (("a", 2, 1, 0), ("b", 1, 2, 0))), ((0,), (1, 2)))


class Ways(unittest.TestCase):
    def test_the_fewest_ties_to_each_place(self):
        ring = CHAIN[:5] + (("z", 5, 0, 0),)
        self.assertEqual(ways_from(7, ring, 1), [("a",), (), ("b",), ("b", "c"), ways_from(7, ring, 1)[4], ("a", "z"), None])
        self.assertIn(ways_from(7, ring, 1)[4], (("b", "c", "d"), ("a", "z", "e")))
        self.assertEqual(ways_from(7, ring, 4), [("e", "z"), ways_from(7, ring, 4)[1], ("d", "c"), ("d",), (), ("e",), None])
        self.assertEqual(ways_from(7, ring, 6), [None] * 6 + [()])
        # Two ways to 3, the one told later is the shorter one.
        stand = (("a", 0, 1, 0), ("b", 1, 2, 0), ("c", 2, 3, 0), ("d", 0, 3, 0), ("e", 3, 4, 0))
        self.assertEqual([len(way) for way in ways_from(5, stand, 0)], [0, 1, 2, 1, 2])

    def test_they_lead_there(self):
        for history in some_histories():
            many = history[0]
            stand = stand_reckoned(history, len(history[1]) // 2)
            for one in range(many):
                for other, way in enumerate(stays_as_it_was(self, ways_from, many, stand, one)):
                    self.assertEqual(way is not None, are_joined(many, stand, one, other))
                    if way is not None:
                        self.assertIs(leads(stand, one, other, way), True)
                        self.assertEqual(len(set(way)), len(way))

    def test_leads(self):
        stand = (("a", 0, 1, 0), ("b", 1, 2, 0), ("c", 0, 1, 0), ("d", 3, 4, 0))
        for one, other, way in (
            (0, 0, ()), (3, 3, ()), (0, 1, ("a",)), (1, 0, ("a",)), (0, 2, ("c", "b")), (2, 0, ("b", "a")),
            (0, 0, ("a", "c")), (0, 1, ("a",) * 999), (0, 0, ("a",) * 1000), (2, 1, ("b", "b", "b")),
        ):
            self.assertIs(leads(stand, one, other, way), True)
        for one, other, way in (
            (0, 1, ()), (0, 2, ("a",)), (0, 2, ("b",)), (0, 2, ("b", "a")), (0, 0, ("a",) * 999), (0, 1, ["a"]),
            (0, 1, ("z",)), (0, 1, (1,)), (0, 1, (["a"],)), (0, 1, ({},)), (0, 1, None), (0, 1, "a"), (0, 0, []), (0, 0, ""),
            (0, 4, ("a", "d")), (3, 0, ("b",)), (0, 3, ("b",)), (2, 5, ("d",)), (0, 1, (("a",),)), (0, 1, ("a", None)), (0, 1, (True,)), (0, 0, 0), (0, 0, {}),
        ):
            self.assertIs(stays_as_it_was(self, leads, stand, one, other, way), False)

    def test_has_ring(self):
        self.assertIs(has_ring(24, ()), False)
        self.assertIs(has_ring(24, CHAIN), False)
        self.assertIs(has_ring(24, TURNED), False)
        self.assertIs(has_ring(6, TWO_PARTS), False)
        self.assertIs(has_ring(24, CHAIN + (("z", 23, 0, 0),)), True)
        self.assertIs(has_ring(6, TWO_PARTS + (("d", 1, 4, 0),)), True)
        self.assertIs(has_ring(6, TWO_PARTS + (("d", 1, 2, 0), ("e", 5, 0, 0))), True)
        self.assertIs(has_ring(6, TWO_PARTS + (("d", 1, 2, 0), ("e", 5, 2, 0))), False)


class Many(unittest.TestCase):
    def test_stands_of_many_histories(self):
        for history in some_histories():
            many = history[0]
            for n in range(0, len(history[1]) + 1, 7):
                stand = stand_reckoned(history, n)
                reach = reach_reckoned(many, stand)
                parts = [tuple(other for other in range(many) if reach[one][other]) for one in range(many)]
                for one in range(many):
                    self.assertEqual(stays_as_it_was(self, part_of, many, stand, one), parts[one])
                    for other in range(many):
                        told = stays_as_it_was(self, are_joined, many, stand, one, other)
                        self.assertIs(told, reach[one][other])
                self.assertEqual(stays_as_it_was(self, parts_of, many, stand), tuple(sorted(set(parts))))

    def test_kinds_of_what_is_told(self):
        part = part_of(6, TWO_PARTS, 3)
        parts = parts_of(6, TWO_PARTS)
        self.assertIs(type(part), tuple)
        self.assertIs(type(parts), tuple)
        self.assertTrue(all(is_number(place) for place in part))
        for part in parts:
            self.assertIs(type(part), tuple)
            self.assertTrue(all(is_number(place) for place in part))


if __name__ == "__main__":
    unittest.main()
