"""[15], [16], [4]: a tie goes out of a layered stand, told with a paper."""

import unittest

from joinedever.errors import NoDeed, TieError
from joinedever.going import gone
from joinedever.layers import bare_layers, layers_hold, most_layer, stand_of
from layered import going_reckoned, layered, row, some_layered_stands
from samples import is_number, stays_as_it_was


class Going(unittest.TestCase):
    def goes(self, layers, name):
        """What gone tells, seen to be what [15] and [16] promise of it."""
        told = stays_as_it_was(self, gone, layers, name)
        self.assertIs(type(told), tuple)
        behind, paper = told
        self.assertIs(layers_hold(behind), True)
        self.assertEqual(stand_of(behind), tuple(tie for tie in stand_of(layers) if tie[0] != name))
        layer_of = {tie[0]: tie[4] for tie in layers[1]}
        for tie in behind[1]:
            self.assertGreaterEqual(tie[4], layer_of[tie[0]])
            self.assertLessEqual(tie[4], most_layer(layers[0]))
        self.assertEqual(repr(going_reckoned(layers, name, paper)), repr(behind))
        self.sees_kinds(paper)
        self.looked_ones_rise(layers, told)
        self.assertEqual(gone(layers, name), told)
        return told

    def sees_kinds(self, paper):
        self.assertIs(type(paper), tuple)
        for told in paper:
            self.assertIs(type(told), tuple)
            layer, places, looked, found = told
            self.assertTrue(is_number(layer))
            self.assertIs(type(places), tuple)
            self.assertTrue(all(is_number(place) for place in places))
            self.assertIs(type(looked), tuple)
            self.assertTrue(all(type(name) is str for name in looked))
            self.assertTrue(found is None or type(found) is str)

    def looked_ones_rise(self, layers, told):
        """[4]: each tie that a going looks at, but the one that it finds, rises."""
        behind, paper = told
        ahead = {tie[0]: tie for tie in layers[1]}
        after = {tie[0]: tie for tie in behind[1]}
        for layer, places, looked, found in paper:
            for name in looked:
                self.assertGreater(after[name][4], layer)
                self.assertIs(after[name][5], False)
            if found is not None:
                self.assertEqual(after[found][4:], (layer, True))
                self.assertIs(ahead[found][5], False)

    def test_a_tie_that_is_not_kept(self):
        layers = layered(4, row("a", 0, 1, 1), row("b", 0, 1, 1, False), row("c", 1, 2), row("d", 2, 0, 0, False))
        for name in "bd":
            told = self.goes(layers, name)
            self.assertEqual(told, ((4, tuple(tie for tie in layers[1] if tie[0] != name)), ()))

    def test_the_last_tie(self):
        behind, paper = self.goes(layered(2, row("a", 0, 1)), "a")
        self.assertEqual(behind, (2, ()))
        self.assertIn(paper, (((0, (0,), (), None),), ((0, (1,), (), None),)))

    def test_a_kept_one_of_layer_0_with_nothing_found(self):
        layers = layered(5, row("a", 0, 1), row("b", 1, 2), row("c", 3, 4))
        told = self.goes(layers, "a")
        # The place 0 is left alone, so nothing rises.
        self.assertEqual(told, (layered(5, row("b", 1, 2), row("c", 3, 4)), ((0, (0,), (), None),)))

    def test_kept_ones_within_places_rise(self):
        layers = layered(8, row("a", 0, 1), row("b", 1, 2), row("c", 2, 3), row("d", 3, 4), row("e", 4, 5))
        behind, paper = self.goes(layers, "b")
        self.assertEqual(paper, ((0, (0, 1), (), None),))
        self.assertEqual(behind, layered(8, row("a", 0, 1, 1), row("c", 2, 3), row("d", 3, 4), row("e", 4, 5)))

    def test_one_that_leads_out(self):
        layers = layered(4, row("a", 0, 1), row("b", 1, 2), row("c", 2, 3), row("d", 3, 0, 0, False))
        behind, paper = self.goes(layers, "a")
        self.assertEqual(paper, ((0, (0,), (), "d"),))
        self.assertEqual(behind, layered(4, row("b", 1, 2), row("c", 2, 3), row("d", 3, 0)))

    def test_several_that_lead_out(self):
        layers = layered(
            6, row("a", 0, 1), row("b", 1, 2), row("c", 2, 3), row("d", 3, 0, 0, False), row("e", 2, 0, 0, False),
            row("f", 0, 1, 0, False),
        )
        behind, paper = self.goes(layers, "a")
        self.assertEqual(len(paper), 1)
        self.assertIn(paper[0][3], "def")
        self.assertEqual([tie[0] for tie in behind[1] if tie[5]], sorted(["b", "c", paper[0][3]]))

    def test_ties_not_kept_within_places(self):
        # Both parts have four places; three loose ties lie within each, and two lead from the one to the other.
        kept = [row(name, one, one + 1) for one, name in enumerate("abcxefg")]
        loose = (("j", 0, 2), ("k", 4, 6), ("l", 1, 3), ("m", 5, 7), ("n", 2, 5), ("y", 7, 0), ("z", 3, 1), ("zz", 7, 4))
        layers = layered(8, *kept, *[row(name, one, other, 0, False) for name, one, other in loose])
        behind, paper = self.goes(layers, "x")
        self.assertEqual(len(paper), 1)
        layer, places, looked, found = paper[0]
        self.assertIn(found, "ny")
        self.assertIn(places, ((0, 1, 2, 3), (4, 5, 6, 7)))
        risen = [tie[0] for tie in behind[1] if tie[4] == 1]
        self.assertEqual(risen, sorted(looked + (("a", "b", "c") if places[0] == 0 else ("e", "f", "g"))))

    def test_none_leads_out_and_all_within_rise(self):
        layers = layered(
            8, row("a", 0, 1), row("b", 1, 2), row("c", 2, 3), row("d", 3, 4), row("e", 4, 5), row("f", 5, 6),
            row("g", 0, 2, 0, False), row("h", 1, 0, 0, False), row("i", 6, 4, 0, False),
        )
        behind, paper = self.goes(layers, "c")
        layer, places, looked, found = paper[0]
        self.assertEqual((layer, places, sorted(looked), found), (0, (0, 1, 2), ["g", "h"], None))
        self.assertEqual(behind, layered(
            8, row("a", 0, 1, 1), row("b", 1, 2, 1), row("d", 3, 4), row("e", 4, 5), row("f", 5, 6),
            row("g", 0, 2, 1, False), row("h", 1, 0, 1, False), row("i", 6, 4, 0, False),
        ))

    def test_both_parts_of_like_many_places(self):
        layers = layered(
            4, row("a", 0, 1), row("b", 1, 2), row("c", 2, 3), row("d", 1, 0, 0, False), row("e", 3, 2, 0, False),
        )
        behind, paper = self.goes(layers, "b")
        self.assertEqual(len(paper), 1)
        self.assertIn(paper[0][1:], (((0, 1), ("d",), None), ((2, 3), ("e",), None)))

    def test_the_greater_part_of_either_place(self):
        # The lesser part is that of the tie's one here, and that of its other there.
        for one, other in ((0, 1), (1, 0)):
            layers = layered(5, row("a", one, other), row("b", 1, 2), row("c", 2, 3))
            self.assertEqual(self.goes(layers, "a")[1], ((0, (0,), (), None),))

    def test_nothing_found_down_to_layer_0(self):
        for many in (4, 8, 16, 24):
            layer = most_layer(many)
            layers = layered(many, row("a", 0, 1, layer), row("b", 1, 2), row("c", 1, 3))
            behind, paper = self.goes(layers, "a")
            self.assertEqual([told[0] for told in paper], list(range(layer, -1, -1)))
            self.assertTrue(all(told[2:] == ((), None) for told in paper))
            # At layer 0 the lesser part is the place 0 alone, so all else stays.
            self.assertEqual(behind, layered(many, row("b", 1, 2), row("c", 1, 3)))

    def test_found_at_each_lesser_layer(self):
        for layer in range(4):
            layers = layered(16, row("a", 0, 1, 3), row("b", 0, 1, layer, False), row("c", 1, 2))
            behind, paper = self.goes(layers, "a")
            self.assertEqual([told[0] for told in paper], list(range(3, layer - 1, -1)))
            self.assertEqual([told[3] for told in paper], [None] * (3 - layer) + ["b"])
            self.assertEqual(behind, layered(16, row("b", 0, 1, layer), row("c", 1, 2)))

    def test_ties_of_another_layer_are_left(self):
        # c leads out, but of a lesser layer: it is found in its own round alone.
        layers = layered(16, row("a", 0, 1, 2), row("b", 1, 2, 2), row("c", 0, 2, 1, False), row("d", 0, 1, 0, False))
        behind, paper = self.goes(layers, "a")
        self.assertEqual(paper, ((2, (0,), (), None), (1, (0,), (), "c")))
        self.assertEqual(behind, layered(16, row("b", 1, 2, 2), row("c", 0, 2, 1), row("d", 0, 1, 0, False)))

    def test_parts_are_made_of_what_rose_by_then(self):
        # By the round of layer 1 the ties of the lesser part have risen to 2, and still join it.
        layers = layered(
            16, row("a", 1, 2, 1), row("b", 0, 1, 1), row("c", 2, 3, 1), row("d", 3, 4, 1), row("e", 0, 5), row("f", 4, 6),
            row("g", 4, 7), row("h", 5, 0, 0, False),
        )
        behind, paper = self.goes(layers, "a")
        self.assertEqual(paper, ((1, (0, 1), (), None), (0, (0, 1, 5), ("h",), None)))
        self.assertEqual(behind, layered(
            16, row("b", 0, 1, 2), row("c", 2, 3, 1), row("d", 3, 4, 1), row("e", 0, 5, 1), row("f", 4, 6), row("g", 4, 7),
            row("h", 5, 0, 1, False),
        ))

    def test_each_tie_of_many_layered_stands(self):
        rounds, found, looked = set(), set(), set()
        for layers in some_layered_stands(180):
            for tie in layers[1]:
                paper = self.goes(layers, tie[0])[1]
                rounds.add(len(paper))
                found.update(told[3] is None for told in paper)
                looked.update(len(told[2]) for told in paper)
        # The stands are of enough kinds to be worth it.
        self.assertEqual((rounds, found), ({0, 1, 2, 3, 4}, {True, False}))
        self.assertTrue({0, 1, 2, 3} <= looked)

    def test_till_none_is_left(self):
        for seed, layers in enumerate(some_layered_stands(40)):
            while layers[1]:
                layers = self.goes(layers, layers[1][seed % len(layers[1])][0])[0]


class Refused(unittest.TestCase):
    def refused(self, layers, name):
        with self.assertRaises(NoDeed) as caught:
            stays_as_it_was(self, gone, layers, name)
        self.assertEqual(caught.exception.word, "gone")
        self.assertIsInstance(caught.exception, TieError)

    def test_a_name_of_no_tie(self):
        layers = layered(4, row("bb", 0, 1), row("dd", 1, 2))
        for name in ("a", "b", "bbb", "c", "d", "z", "abcdefgh"):
            self.refused(layers, name)

    def test_a_stand_without_ties(self):
        for many in (1, 2, 24):
            self.refused(bare_layers(many), "a")

    def test_a_tie_that_has_gone(self):
        layers = layered(4, row("a", 0, 1), row("b", 0, 1, 0, False))
        self.refused(gone(layers, "a")[0], "a")
        self.refused(gone(layers, "b")[0], "b")


if __name__ == "__main__":
    unittest.main()
