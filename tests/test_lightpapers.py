"""[19]: papers of rings and of cuts for the lightest forest."""

import unittest

from joinedever.lightcheck import cuts_hold, rings_hold
from joinedever.lightest import lightest
from joinedever.lightpapers import cuts_for, rings_for
from light import lightest_by_taking_away, some_stands, tie
from samples import is_number, stays_as_it_was

# A ring of 0, 1, 2 and one of 3, 4; "c" and "e" are left out.
STAND = (tie("a", 0, 1, 1), tie("b", 1, 2, 2), tie("c", 2, 0, 3), tie("d", 3, 4, 1), tie("e", 4, 3, 1))


def key(one):
    return one[3], one[0]


class Rings(unittest.TestCase):
    def test_by_hand(self):
        told = stays_as_it_was(self, rings_for, 6, STAND)
        self.assertEqual(told, (("c", ("b", "a")), ("e", ("d",))))

    def test_of_no_ties_and_of_one_place(self):
        for many in (1, 2, 24):
            self.assertEqual(rings_for(many, ()), ())

    def test_where_all_are_in_the_forest(self):
        self.assertEqual(rings_for(4, (tie("a", 0, 1), tie("b", 1, 2))), ())

    def test_they_are_let_by(self):
        for many, stand in some_stands(120):
            told = stays_as_it_was(self, rings_for, many, stand)
            self.assertIs(rings_hold(many, stand, lightest(many, stand), told), True)
            self.assertEqual(told, rings_for(many, stand))

    def test_the_words_of_the_document(self):
        for many, stand in some_stands(60):
            forest = lightest_by_taking_away(many, stand)
            ties = {one[0]: one for one in stand}
            told = rings_for(many, stand)
            self.assertIs(type(told), tuple)
            self.assertEqual([name for name, way in told], [one[0] for one in stand if one[0] not in forest])
            for pair in told:
                self.assertIs(type(pair), tuple)
                name, way = pair
                self.assertIs(type(way), tuple)
                here = ties[name][1]
                for step in way:
                    self.assertIn(step, forest)
                    self.assertLess(key(ties[step]), key(ties[name]))
                    self.assertIn(here, ties[step][1:3])
                    here = sum(ties[step][1:3]) - here
                self.assertEqual(here, ties[name][2])


class Cuts(unittest.TestCase):
    def test_by_hand(self):
        told = stays_as_it_was(self, cuts_for, 6, STAND)
        self.assertEqual([name for name, places in told], ["a", "b", "d"])
        self.assertIs(cuts_hold(6, STAND, ("a", "b", "d"), told), True)

    def test_of_no_ties_and_of_one_place(self):
        for many in (1, 2, 24):
            self.assertEqual(cuts_for(many, ()), ())

    def test_they_are_let_by(self):
        for many, stand in some_stands(120):
            told = stays_as_it_was(self, cuts_for, many, stand)
            self.assertIs(cuts_hold(many, stand, lightest(many, stand), told), True)
            self.assertEqual(told, cuts_for(many, stand))

    def test_the_words_of_the_document(self):
        for many, stand in some_stands(60):
            forest = lightest_by_taking_away(many, stand)
            ties = {one[0]: one for one in stand}
            told = cuts_for(many, stand)
            self.assertIs(type(told), tuple)
            self.assertEqual(tuple(name for name, places in told), forest)
            for pair in told:
                self.assertIs(type(pair), tuple)
                name, places = pair
                self.assertIs(type(places), tuple)
                self.assertTrue(all(is_number(place) and 0 <= place < many for place in places))
                self.assertEqual(places, tuple(sorted(set(places))))
                self.assertEqual(len({ties[name][1], ties[name][2]} & set(places)), 1)
                for one in stand:
                    if key(one) < key(ties[name]):
                        self.assertNotEqual(len({one[1], one[2]} & set(places)), 1)


if __name__ == "__main__":
    unittest.main()
