"""[23], [4]: ways and cuts between places."""

import unittest

from joinedever.walking import are_joined
from joinedever.ways import cut_between, way_between
from light import some_stands, tie
from samples import LETTERS, is_number, stays_as_it_was

CHAIN = tuple(tie(LETTERS[k], k, k + 1) for k in range(23))
# From 0 to 3 over 1 and 2, or straight over 4; "f" lies beside "a"; 5 and 6 are a part, 7 is alone.
STAND = (
    tie("a", 0, 1), tie("b", 1, 2), tie("c", 2, 3), tie("d", 3, 4), tie("e", 0, 4), tie("f", 1, 0), tie("g", 6, 5),
)


def steps_reckoned(many, stand):
    """For each two places the number of the fewest ties between them, or None; by steps over each place in turn."""
    far = 10 ** 6
    steps = [[0 if one == other else far for other in range(many)] for one in range(many)]
    for name, one, other, weight in stand:
        steps[one][other] = steps[other][one] = 1
    for over in range(many):
        for one in range(many):
            for other in range(many):
                steps[one][other] = min(steps[one][other], steps[one][over] + steps[over][other])
    return [[None if count >= far else count for count in row] for row in steps]


def end_of(stand, here, way):
    """Where names lead from a place; they do lead on."""
    ties = {one[0]: one[1:3] for one in stand}
    for name in way:
        assert here in ties[name]
        here = sum(ties[name]) - here
    return here


class Ways(unittest.TestCase):
    def told(self, many, stand, one, other, *ways):
        """One of these ways is told, and told again."""
        way = stays_as_it_was(self, way_between, many, stand, one, other)
        self.assertIn(repr(way), [repr(right) for right in ways])
        self.assertEqual(way_between(many, stand, one, other), way)

    def test_of_a_place_with_itself(self):
        for many, stand in ((1, ()), (24, ()), (24, CHAIN), (8, STAND)):
            for place in range(many):
                self.told(many, stand, place, place, ())

    def test_of_neighbours(self):
        for name, one, other, weight in STAND[1:5] + STAND[6:]:
            self.told(8, STAND, one, other, (name,))
            self.told(8, STAND, other, one, (name,))

    def test_of_two_ties_of_like_places(self):
        self.told(8, STAND, 0, 1, ("a",), ("f",))
        self.told(8, STAND, 1, 0, ("a",), ("f",))
        self.told(8, STAND, 4, 1, ("e", "a"), ("e", "f"))

    def test_of_places_far_from_one_another(self):
        names = tuple(LETTERS[:23])
        self.told(24, CHAIN, 0, 23, names)
        self.told(24, CHAIN, 23, 0, names[::-1])
        for one in range(24):
            for other in range(one, 24):
                self.told(24, CHAIN, one, other, names[one:other])
                self.told(24, CHAIN, other, one, names[one:other][::-1])

    def test_a_shorter_way_beside_a_longer_one(self):
        self.told(8, STAND, 0, 3, ("e", "d"))
        self.told(8, STAND, 3, 0, ("d", "e"))
        self.told(8, STAND, 0, 2, ("a", "b"), ("f", "b"))
        self.told(8, STAND, 2, 4, ("c", "d"))
        self.told(24, CHAIN + (tie("z", 0, 23),), 0, 22, ("z", "w"))
        # Weights do not matter, nor which names come first.
        self.told(3, (tie("a", 0, 1, 0), tie("b", 1, 2, 0), tie("z", 2, 0, 9)), 0, 2, ("z",))

    def test_where_places_are_not_joined(self):
        for one, other in ((0, 5), (5, 0), (7, 0), (6, 7), (3, 6)):
            self.told(8, STAND, one, other, None)
        self.told(24, (), 0, 23, None)
        self.told(24, CHAIN[:11] + CHAIN[12:], 11, 12, None)

    def test_over_many(self):
        for many, stand in some_stands(40):
            steps = steps_reckoned(many, stand)
            for one in range(many):
                for other in range(many):
                    way = stays_as_it_was(self, way_between, many, stand, one, other)
                    if steps[one][other] is None:
                        self.assertIs(way, None)
                        continue
                    self.assertIs(type(way), tuple)
                    self.assertEqual(len(way), steps[one][other])
                    self.assertEqual(end_of(stand, one, way), other)
                    self.assertEqual(way_between(many, stand, one, other), way)


class Cuts(unittest.TestCase):
    def right(self, many, stand, one, other):
        """Looks at the cut that is told by the words of the document, and tells it."""
        cut = stays_as_it_was(self, cut_between, many, stand, one, other)
        self.assertIs(type(cut), tuple)
        self.assertTrue(all(is_number(place) and 0 <= place < many for place in cut))
        self.assertTrue(all(ahead < place for ahead, place in zip(cut, cut[1:])))
        self.assertIn(one, cut)
        self.assertNotIn(other, cut)
        self.assertTrue(all((tie[1] in cut) == (tie[2] in cut) for tie in stand))
        self.assertEqual(cut_between(many, stand, one, other), cut)
        return cut

    def none(self, many, stand, one, other):
        self.assertIs(stays_as_it_was(self, cut_between, many, stand, one, other), None)

    def test_of_parted_places(self):
        for one, other in ((0, 5), (5, 0), (7, 0), (6, 7), (3, 6), (4, 7), (7, 6)):
            self.right(8, STAND, one, other)
        self.right(24, (), 0, 23)
        self.right(24, CHAIN[:11] + CHAIN[12:], 11, 12)
        self.right(24, CHAIN[:11] + CHAIN[12:], 12, 11)
        self.right(2, (), 1, 0)

    def test_of_two_places_but_one_cut(self):
        self.assertEqual(self.right(2, (), 0, 1), (0,))
        self.assertEqual(self.right(3, (tie("a", 2, 0),), 2, 1), (0, 2))

    def test_of_joined_places(self):
        for one in range(5):
            for other in range(5):
                self.none(8, STAND, one, other)
        self.none(24, CHAIN, 0, 23)
        self.none(8, STAND, 5, 6)

    def test_of_a_place_with_itself(self):
        for many, stand in ((1, ()), (24, ()), (24, CHAIN), (8, STAND)):
            for place in range(many):
                self.none(many, stand, place, place)

    def test_just_one_of_way_and_cut_is_none(self):
        for many, stand in some_stands(40):
            for one in range(many):
                for other in range(many):
                    way = way_between(many, stand, one, other)
                    self.assertIs(way is not None, are_joined(many, stand, one, other))
                    if way is None:
                        self.right(many, stand, one, other)
                    else:
                        self.none(many, stand, one, other)


if __name__ == "__main__":
    unittest.main()
