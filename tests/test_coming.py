"""[14], [4], [13]: a tie comes to a layered stand."""

import random
import unittest

from joinedever.coming import came
from joinedever.errors import NoDeed, TieError
from joinedever.layers import bare_layers, layers_hold, stand_of
from layered import layered, row, some_layered_stands
from samples import MOST, reach_reckoned, stays_as_it_was

# 0, 1, 2 are joined, 0 and 1 by a greater layer; 3 and 4 are; 5 is alone.
STAND = layered(
    8, row("bb", 0, 1, 2), row("cc", 1, 2), row("dd", 3, 4, 1), row("ee", 0, 1, 1, False), row("ff", 2, 0, 0, False),
)


class Came(unittest.TestCase):
    def comes(self, layers, tie, kept):
        told = stays_as_it_was(self, came, layers, tie)
        self.assertEqual(repr(told), repr((layers[0], tuple(sorted(layers[1] + (tie + (0, kept),))))))
        self.assertIs(layers_hold(told), True)
        self.assertEqual(stand_of(told), tuple(sorted(stand_of(layers) + (tie,))))

    def test_to_a_stand_without_ties(self):
        for many in range(2, 25):
            self.comes(bare_layers(many), ("a", 0, many - 1, 7), True)
            self.comes(bare_layers(many), ("abcdefgh", many - 1, 0, MOST), True)

    def test_places_that_are_not_joined(self):
        for one, other in ((0, 3), (4, 2), (5, 0), (6, 7)):
            self.comes(STAND, ("x", one, other, 1), True)

    def test_places_that_are_joined(self):
        # By a tie of a greater layer, by one of layer 0, by both, and by one of a layer between.
        for one, other in ((0, 1), (1, 0), (1, 2), (0, 2), (2, 0), (3, 4), (4, 3)):
            self.comes(STAND, ("x", one, other, 1), False)

    def test_a_name_that_stands_first_last_and_between(self):
        for name, at in (("a", 0), ("ba", 0), ("c", 1), ("ccc", 2), ("e", 3), ("eef", 4), ("z", 5)):
            self.comes(STAND, (name, 5, 6, 0), True)
            self.assertEqual(came(STAND, (name, 5, 6, 0))[1][at][0], name)

    def test_to_fifty_nine_ties(self):
        rows = [row(chr(97 + k // 26) + chr(97 + k % 26), k % 8, 8, 0, k < 8) for k in range(59)]
        layers = layered(24, *rows)
        self.comes(layers, ("a", 9, 10, 0), True)
        self.comes(layers, ("zz", 0, 7, 0), False)

    def test_all_else_stays(self):
        told = came(STAND, ("da", 2, 3, 0))
        self.assertEqual(told[1][:2] + told[1][3:], STAND[1])

    def test_over_many(self):
        dice = random.Random(1)
        for layers in some_layered_stands(90):
            many, rows = layers
            if many == 1 or len(rows) > 59:
                continue
            for turn in range(5):
                one, other = dice.sample(range(many), 2)
                kept = not reach_reckoned(many, rows)[one][other]
                self.comes(layers, (dice.choice("dmq") * 3, one, other, dice.randint(0, 9)), kept)

    def test_many_comings_one_behind_another(self):
        dice = random.Random(2)
        layers = bare_layers(7)
        for k in range(60):
            tie = (chr(97 + dice.randrange(26)) + chr(97 + k // 26) + chr(97 + k % 26), *dice.sample(range(7), 2), 0)
            self.comes(layers, tie, not reach_reckoned(7, layers[1])[tie[1]][tie[2]])
            layers = came(layers, tie)
        self.assertEqual(len(layers[1]), 60)

    def test_the_same_of_the_same(self):
        self.assertEqual(came(STAND, ("x", 0, 5, 1)), came(STAND, ("x", 0, 5, 1)))


class Refused(unittest.TestCase):
    def test_a_name_that_is_there(self):
        for told in STAND[1]:
            for one, other in ((told[1], told[2]), (told[2], told[1]), (5, 6), (0, 3), (0, 1)):
                for weight in (told[3], 9):
                    tie = (told[0], one, other, weight)
                    ahead = repr((STAND, tie))
                    with self.assertRaises(NoDeed) as caught:
                        came(STAND, tie)
                    self.assertEqual(caught.exception.word, "there")
                    self.assertIsInstance(caught.exception, TieError)
                    self.assertEqual(repr((STAND, tie)), ahead)

    def test_names_near_one_that_is_there(self):
        for name in ("b", "bbb", "ab", "bc"):
            self.assertEqual(len(came(STAND, (name, 5, 6, 0))[1]), 6)


if __name__ == "__main__":
    unittest.main()
