"""[13]: layered stands, which are let by, and their stands."""

import random
import unittest

from joinedever.layers import bare_layers, layers_hold, most_layer, stand_of
from layered import halved, holds_reckoned, layered, row, some_layered_stands, some_layers
from samples import MOST, ODD_THINGS, deep_thing, is_number, stays_as_it_was, wide_thing

FORTY = 10 ** 39
ANY_THINGS = ODD_THINGS + (0, 1, -1, FORTY, -FORTY, deep_thing(20), wide_thing(6000))
# A tie of each layer of eight places, one not kept beside a kept one of like places, one not kept at all parts.
RIGHT = layered(
    8, row("a", 0, 1, 2), row("b", 1, 2, 1), row("c", 3, 4), row("d", 1, 0, 2, False), row("e", 2, 0, 1, False),
    row("f", 0, 2, 0, False), row("g", 2, 3),
)


def chain(many, places, layer):
    """Kept ties of one layer that join so many places."""
    return layered(many, *[row(chr(97 + k), k, k + 1, layer) for k in range(places - 1)])


def with_row(number, thing, layers=RIGHT):
    many, rows = layers
    return (many, rows[:number] + (thing,) + rows[number + 1:])


def with_part(number, part, thing, layers=RIGHT):
    """The layered stand with a thing in place of one part of one of its rows."""
    told = layers[1][number]
    return with_row(number, told[:part] + (thing,) + told[part + 1:], layers)


class Bare(unittest.TestCase):
    def test_most_layer(self):
        told = [most_layer(many) for many in range(1, 25)]
        self.assertEqual(told, [0] * 3 + [1] * 4 + [2] * 8 + [3] * 9)
        self.assertTrue(all(is_number(layer) for layer in told))

    def test_bare_layers(self):
        for many in range(1, 25):
            self.assertEqual(bare_layers(many), (many, ()))
            self.assertIs(layers_hold(bare_layers(many)), True)
            self.assertEqual(stand_of(bare_layers(many)), ())

    def test_stand_of(self):
        self.assertEqual(stand_of(RIGHT), tuple((tie[0], tie[1], tie[2], 0) for tie in RIGHT[1]))
        self.assertEqual(stand_of((4, (("b", 2, 0, 7, 1, True), ("c", 0, 3, MOST, 0, True)))),
                         (("b", 2, 0, 7), ("c", 0, 3, MOST)))
        for layers in some_layered_stands():
            stand = stays_as_it_was(self, stand_of, layers)
            self.assertIs(type(stand), tuple)
            self.assertEqual(stand, tuple(sorted(tie[:4] for tie in layers[1])))


class Holds(unittest.TestCase):
    def holds(self, thing, truth=True):
        told = stays_as_it_was(self, layers_hold, thing)
        self.assertIs(told, truth)

    def test_ties_of_all_layers(self):
        self.holds(RIGHT)
        self.assertEqual({tie[4] for tie in RIGHT[1]}, set(range(most_layer(8) + 1)))
        for many in range(2, 25):
            self.holds(layered(many, *[row("b" * (layer + 1), layer, layer + 1, layer) for layer in range(most_layer(many) + 1)]))

    def test_one_place(self):
        self.holds((1, ()))
        self.holds((1, (row("a", 0, 0),)), False)

    def test_sixty_ties(self):
        pairs = [(one, other) for one in range(8) for other in range(10, 18)][:60]
        kept = {(0, other) for other in range(10, 18)} | {(one, 10) for one in range(8)}
        rows = [row(chr(97 + one) + chr(97 + other), one, other, 0, (one, other) in kept) for one, other in pairs]
        self.holds(layered(24, *rows))
        # One more of just the same kind is too many.
        self.holds(layered(24, *rows, row("zz", 1, 11, 0, False)), False)

    def test_ties_not_kept_of_like_places(self):
        self.holds(layered(2, row("a", 0, 1, 0, False), row("b", 0, 1), row("c", 1, 0, 0, False)))
        self.holds(layered(4, row("a", 0, 1, 1), row("b", 0, 1, 1, False), row("c", 1, 0, 0, False)))

    def test_the_greatest_and_the_least_numbers(self):
        self.holds(((24), (("abcdefgh", 23, 0, MOST, 3, True), ("z", 0, 23, 0, 0, False))))

    def test_made_by_another_hand(self):
        for layers in some_layered_stands(120):
            self.holds(layers)

    def test_no_pair(self):
        many, rows = RIGHT
        for thing in ([many, rows], (many,), (many, rows, rows), (many, rows, None), (rows, many), (), {many: rows}, rows):
            self.holds(thing, False)

    def test_many_is_none(self):
        for many in (0, 25, -1, FORTY, True, False, None, "4", (4,), [4]):
            self.holds((many, ()), False)
        for many in (2, 24):
            self.holds((many, (row("a", 0, 1),)))
        for many in (True, 1, 25, 0):
            self.holds((many, (row("a", 0, 1),)), False)

    def test_rows_are_no_tuple(self):
        for rows in ([], {}, None, 0, "", list(RIGHT[1]), set(), "a"):
            self.holds((8, rows), False)

    def test_a_row_of_another_shape(self):
        for number, told in enumerate(RIGHT[1]):
            for thing in (told[:5], told + (True,), told[1:], list(told), (told,), dict(enumerate(told)), ()):
                self.holds(with_row(number, thing), False)

    def test_no_name(self):
        for name in ("", "A", "aA", "a1", "a b", "abcdefghi", "\u00e9", " ", 1, None, True, ("a",), ["a"]):
            self.holds((4, ((name, 0, 1, 0, 0, True),)), False)
        self.holds((4, (("abcdefgh", 0, 1, 0, 0, True),)))

    def test_no_places(self):
        for one, other in ((0, 0), (3, 3), (-1, 0), (0, -1), (4, 0), (0, 4), (True, 0), (0, True), (False, 1), (None, 0), ("0", 1)):
            self.holds((4, (("a", one, other, 0, 0, True),)), False)
        self.holds((4, (("a", 3, 0, 0, 0, True),)))

    def test_no_weight(self):
        for weight in (-1, MOST + 1, FORTY, True, False, None, "0", (0,)):
            self.holds((4, (("a", 0, 1, weight, 0, True),)), False)
        self.holds((4, (("a", 0, 1, MOST, 0, True),)))

    def test_no_layer(self):
        for layer in (-1, True, False, None, "0", (0,), FORTY, -FORTY):
            self.holds((4, (("a", 0, 1, 0, layer, True),)), False)
        for many in range(2, 25):
            self.holds((many, (row("a", 0, 1, most_layer(many)),)))
            self.holds((many, (row("a", 0, 1, most_layer(many) + 1),)), False)
            self.holds((many, (row("a", 0, 1, most_layer(many) + 2),)), False)

    def test_kept_is_no_truth(self):
        for kept in (0, 1, None, "", "True", (), [], [True]):
            self.holds((4, (("a", 0, 1, 0, 0, kept),)), False)

    def test_rows_that_do_not_rise(self):
        one, other, third = row("a", 0, 1), row("b", 1, 2), row("c", 2, 3)
        self.holds((4, (one, other, third)))
        for rows in ((other, one, third), (one, third, other), (third, other, one)):
            self.holds((4, rows), False)

    def test_a_name_twice(self):
        self.holds((4, (row("a", 0, 1), row("a", 1, 2))), False)
        self.holds((4, (row("a", 0, 1), row("a", 0, 1))), False)
        self.holds((4, (row("a", 0, 1, 0, False), row("a", 0, 1, 0, True))), False)
        self.holds((4, (row("a", 0, 1), row("b", 2, 3), row("a", 1, 2))), False)

    def test_kept_ties_make_a_ring(self):
        for length in range(3, 25):
            rows = [row(chr(97 + k), k, (k + 1) % length) for k in range(length)]
            self.holds(layered(24, *rows), False)
            for number in range(length):
                self.holds(with_part(number, 5, False, layered(24, *rows)))

    def test_two_kept_ties_of_like_places(self):
        self.holds(layered(4, row("a", 0, 1), row("b", 0, 1)), False)
        self.holds(layered(4, row("a", 0, 1), row("b", 1, 0)), False)
        # Of unlike layers, too: each layer alone has none.
        self.holds(layered(4, row("a", 0, 1, 1), row("b", 0, 1, 0)), False)

    def test_a_ring_of_kept_ties_of_several_layers(self):
        rows = (row("a", 0, 1, 1), row("b", 1, 2, 1), row("c", 2, 0, 0))
        self.holds(layered(8, *rows), False)
        self.holds(layered(8, *rows[:2], row("c", 2, 0, 0, False)))

    def test_a_tie_not_kept_that_kept_ones_do_not_join(self):
        self.holds(layered(4, row("a", 0, 1, 0, False)), False)
        self.holds(layered(4, row("a", 0, 1, 0), row("b", 1, 2, 0, False)), False)
        self.holds(layered(4, row("a", 0, 1, 0), row("b", 2, 3, 0), row("c", 1, 2, 0, False)), False)

    def test_a_tie_not_kept_that_kept_ones_of_lesser_layers_alone_join(self):
        # All is joined by kept ties, but not by those of layers from 1 on.
        self.holds(layered(4, row("a", 0, 1, 0), row("b", 0, 1, 1, False)), False)
        self.holds(layered(4, row("a", 0, 1, 1), row("b", 0, 1, 1, False)))
        self.holds(layered(8, row("a", 0, 1, 1), row("b", 0, 1, 2, False)), False)
        self.holds(layered(8, row("a", 0, 1, 2), row("b", 1, 2, 0), row("c", 0, 2, 1, False)), False)
        self.holds(layered(8, row("a", 0, 1, 2), row("b", 1, 2, 1), row("c", 0, 2, 1, False)))

    def test_a_part_with_one_place_more_than_is_let(self):
        for many in range(2, 25):
            for layer in range(most_layer(many) + 1):
                room = halved(many, layer)
                self.holds(chain(many, room, layer))
                if room < many:
                    self.holds(chain(many, room + 1, layer), False)

    def test_the_room_is_of_ties_of_all_greater_layers(self):
        # Of eight places at most four from layer 1 on; one of the ties lies at layer 2.
        rows = (row("a", 0, 1, 2), row("b", 1, 2, 1), row("c", 2, 3, 1))
        self.holds(layered(8, *rows))
        self.holds(layered(8, *rows, row("d", 3, 4, 1)), False)
        self.holds(layered(8, *rows, row("d", 4, 5, 1), row("e", 3, 4, 0)))

    def test_the_words_of_the_document_over_many(self):
        dice = random.Random(5)
        seen = {True: 0, False: 0}
        for seed in range(600):
            layers = some_layers(seed, many=(2, 3, 4, 5, 8, 9, 16)[seed % 7], loose=seed % 4)
            if not layers[1]:
                continue
            for turn in range(4):
                number = dice.randrange(len(layers[1]))
                part, thing = dice.choice(((5, True), (5, False), (4, 0), (4, 1), (4, 2), (1, 0), (2, 1)))
                other = with_part(number, part, thing, layers)
                if other[1][number][1] == other[1][number][2]:
                    continue
                seen[holds_reckoned(other)] += 1
                self.assertIs(layers_hold(other), holds_reckoned(other), other)
        self.assertGreater(min(seen.values()), 400)

    def test_any_things(self):
        for thing in ANY_THINGS:
            self.holds(thing, False)
            self.holds((thing, ()), thing == 1 and is_number(thing))
            self.holds((4, thing), thing == () and isinstance(thing, tuple))
            self.holds((4, (thing,)), False)
            self.holds((4, (row("a", 0, 1), thing)), False)

    def test_any_things_in_a_row(self):
        base = (4, (("a", 0, 3, 5, 0, True),))
        # What may stand in each part of the row.
        rights = (lambda thing: thing == "come", lambda thing: is_number(thing) and thing in (0, 1),
                  lambda thing: is_number(thing) and thing == 1, lambda thing: is_number(thing) and 0 <= thing <= MOST,
                  lambda thing: is_number(thing) and 0 <= thing <= 1, lambda thing: thing is True)
        for part, right in enumerate(rights):
            for thing in ANY_THINGS:
                self.holds(with_part(0, part, thing, base), right(thing))


if __name__ == "__main__":
    unittest.main()
