"""[15], [16], [4]: papers of goings, whoever wrote them, read."""

import itertools
import random
import unittest

from joinedever.going import gone
from joinedever.goingcheck import going_holds
from joinedever.layers import layers_hold
from layered import all_goings, do_round, going_reckoned, layered, row, rows_by_name, some_layered_stands, subsets
from samples import ODD_THINGS, deep_thing, is_number, stays_as_it_was, wide_thing

ANY_THINGS = ODD_THINGS + (0, 1, -1, 10 ** 39, -10 ** 39, deep_thing(20), wide_thing(5000), "a", "m")
# "a" goes. At layer 1 it leaves 0, 1 and 2, 3, 4; at layer 0 it leaves 0, 1, 5 and 2, 3, 4, 6, 7.
STAND = layered(
    16, row("a", 1, 2, 1), row("b", 0, 1, 1), row("c", 2, 3, 1), row("d", 3, 4, 1), row("e", 0, 5), row("f", 4, 6),
    row("g", 4, 7), row("h", 1, 0, 1, False), row("i", 2, 4, 1, False), row("j", 5, 1, 0, False), row("k", 0, 1, 0, False),
    row("m", 5, 6, 0, False), row("n", 7, 0, 0, False), row("o", 6, 7, 0, False),
)
FIRST = (1, (0, 1), ("h",), None)
LAST = (0, (0, 1, 5), ("j",), "m")
BEHIND = layered(
    16, row("b", 0, 1, 2), row("c", 2, 3, 1), row("d", 3, 4, 1), row("e", 0, 5, 1), row("f", 4, 6),
    row("g", 4, 7), row("h", 1, 0, 2, False), row("i", 2, 4, 1, False), row("j", 5, 1, 1, False), row("k", 0, 1, 0, False),
    row("m", 5, 6, 0, True), row("n", 7, 0, 0, False), row("o", 6, 7, 0, False),
)
# The same without the two that lead out at layer 0: nothing is found.
APART = (16, tuple(tie for tie in STAND[1] if tie[0] not in "mn"))
# Two parts of two places each, with a tie within each, and two that lead from the one to the other.
LIKE = layered(
    4, row("a", 0, 1), row("b", 1, 2), row("c", 2, 3), row("d", 1, 0, 0, False), row("e", 3, 2, 0, False),
    row("f", 0, 3, 0, False), row("g", 2, 0, 0, False),
)


def laid(layers, name, paper):
    """What a paper makes of a layered stand, right or wrong; names of no tie are left out."""
    many, rows = layers
    ties = rows_by_name(rows)
    ties.pop(name)
    for layer, places, looked, found in paper:
        do_round(ties, layer, places, [name for name in looked if name in ties], found if found in ties else None)
    return (many, tuple(tuple(ties[key]) for key in sorted(ties)))


def with_part(number, part, thing, layers=BEHIND):
    many, rows = layers
    told = rows[number][:part] + (thing,) + rows[number][part + 1:]
    return (many, rows[:number] + (told,) + rows[number + 1:])


class Checked(unittest.TestCase):
    def holds(self, layers, name, thing, truth=True):
        told = stays_as_it_was(self, going_holds, layers, name, thing)
        self.assertIs(told, truth)


class LetBy(Checked):
    def test_what_gone_tells(self):
        for layers in some_layered_stands(120):
            for tie in layers[1]:
                self.holds(layers, tie[0], gone(layers, tie[0]))

    def test_by_hand(self):
        self.assertIs(layers_hold(STAND), True)
        self.holds(STAND, "a", (BEHIND, (FIRST, LAST)))
        self.assertEqual(laid(STAND, "a", (FIRST, LAST)), BEHIND)

    def test_any_looked_and_any_found(self):
        for count, found in itertools.product(range(3), "mn"):
            for looked in itertools.permutations(("j", "k"), count):
                paper = (FIRST, (0, (0, 1, 5), looked, found))
                self.holds(STAND, "a", (laid(STAND, "a", paper), paper))

    def test_all_looked_in_any_order_where_none_leads_out(self):
        for looked in itertools.permutations(("j", "k")):
            paper = (FIRST, (0, (0, 1, 5), looked, None))
            self.holds(APART, "a", (laid(APART, "a", paper), paper))

    def test_either_part_of_like_many_places(self):
        for places, within in (((0, 1), "d"), ((2, 3), "e")):
            for looked, found in itertools.product(((), (within,)), "fg"):
                paper = ((0, places, looked, found),)
                self.holds(LIKE, "b", (laid(LIKE, "b", paper), paper))

    def test_of_a_tie_that_is_not_kept(self):
        for name in "hijkmno":
            self.holds(STAND, name, ((16, tuple(tie for tie in STAND[1] if tie[0] != name)), ()))

    def test_other_papers_by_another_hand(self):
        dice = random.Random(4)
        many_ways = 0
        for layers in some_layered_stands(90):
            for tie in layers[1]:
                told = all_goings(layers, tie[0], dice)
                many_ways += len(told) > 2
                for pair in told:
                    self.assertEqual(going_reckoned(layers, tie[0], pair[1]), pair[0])
                    self.assertIs(going_holds(layers, tie[0], pair), True)
                    self.assertIs(layers_hold(pair[0]), True)
        self.assertGreater(many_ways, 100)


class Refused(Checked):
    def refused(self, paper, layers=STAND, name="a"):
        """A paper is refused, with what it makes of the stand, and with what a right one does."""
        self.holds(layers, name, (laid(layers, name, paper), paper), False)
        self.holds(layers, name, (gone(layers, name)[0], paper), False)
        self.holds(layers, name, (BEHIND, paper), False)

    def test_the_greater_part(self):
        self.refused(((1, (2, 3, 4), ("i",), None), LAST))
        self.refused((FIRST, (0, (2, 3, 4, 6, 7), (), "m")))
        self.refused((FIRST, (0, (2, 3, 4, 6, 7), ("o",), "n")))

    def test_places_that_are_not_just_the_part(self):
        for places in ((1, 0), (0,), (1,), (0, 1, 5), (0, 1, 8), (0, 0, 1), (0, 1, 1), (), (0, 2), (5, 8), (0, 1, 16)):
            self.refused(((1, places, ("h",) if {0, 1} <= set(places) else (), None), LAST))
        for places in ((0, 5, 1), (5, 1, 0), (0, 1), (0, 5), (0, 1, 5, 8), (0, 1, 2, 5), (0, 1, 1, 5), (-1, 0, 1, 5)):
            self.refused((FIRST, (0, places, (), "m")))

    def test_looked_that_are_none(self):
        # A kept one, ones of a lesser and of a greater layer, one of the other part, twice the same, none, the gone one.
        for looked in (("b", "h"), ("b",), ("h", "k"), ("h", "i"), ("h", "h"), ("h", "zz"), ("h", "a"), ("h", ""), ("e", "h")):
            self.refused(((1, (0, 1), looked, None), LAST))
        for looked in (("e",), ("j", "b"), ("j", "h"), ("m",), ("n",), ("j", "n"), ("j", "j"), ("o",), ("zz",), ("a",), ("j", "k", "j")):
            self.refused((FIRST, (0, (0, 1, 5), looked, "m")))

    def test_found_that_is_none(self):
        # Within places, out of them, kept, of a greater layer, none, the gone one.
        for found in ("k", "j", "o", "e", "g", "b", "i", "h", "zz", "a", ""):
            self.refused((FIRST, (0, (0, 1, 5), (), found)))
        # One of a lesser layer leads out, too; a kept one of this layer doesn't stand for another one.
        for found in ("m", "n", "i", "h", "b", "c", "zz"):
            self.refused(((1, (0, 1), (), found),))
            self.refused(((1, (0, 1), ("h",), found),))
            self.refused(((1, (0, 1), ("h",), found), LAST))

    def test_none_found_though_one_leads_out(self):
        for looked in ((), ("j",), ("k",), ("j", "k"), ("j", "k", "m", "n")):
            self.refused((FIRST, (0, (0, 1, 5), looked, None)))

    def test_none_found_though_one_within_was_not_looked_at(self):
        self.refused(((1, (0, 1), (), None), LAST))
        for looked in ((), ("j",), ("k",)):
            self.refused((FIRST, (0, (0, 1, 5), looked, None)), APART)

    def test_rounds_too_few_and_too_many(self):
        self.refused(())
        self.refused((FIRST,))
        self.refused((LAST,))
        self.refused((FIRST, LAST, LAST))
        self.refused((FIRST, FIRST, LAST))
        self.refused((FIRST, LAST, (0, (0, 1, 5), (), None)))
        self.refused((LAST, FIRST))
        right = (FIRST, (0, (0, 1, 5), ("j", "k"), None))
        self.holds(APART, "a", (laid(APART, "a", right), right))
        self.refused(right[:1], APART)
        self.refused(right + (right[1],), APART)
        self.refused(right + ((-1, (0, 1, 5), (), None),), APART)

    def test_a_wrong_layer(self):
        for layer in (0, 2, -1, 3):
            self.refused(((layer, (0, 1), ("h",), None), LAST))
        for layer in (1, -1, 2):
            self.refused((FIRST, (layer, (0, 1, 5), ("j",), "m")))

    def test_a_wrong_layer_that_changes_nothing(self):
        # One place is left alone, so that no tie rises at whatever layer.
        layers = layered(4, row("a", 0, 1), row("b", 1, 2))
        behind = layered(4, row("b", 1, 2))
        self.holds(layers, "a", (behind, ((0, (0,), (), None),)))
        for layer in (1, 2, -1, 10 ** 39, False, None, "0"):
            self.holds(layers, "a", (behind, ((layer, (0,), (), None),)), False)

    def test_a_round_behind_the_finding_one(self):
        layers = layered(4, row("a", 0, 1, 1), row("b", 0, 1, 1, False), row("c", 0, 1, 0, False), row("d", 1, 2))
        for places in ((0,), (1,)):
            right = ((1, places, (), "b"),)
            self.holds(layers, "a", (laid(layers, "a", right), right))
            for places in ((0,), (1,), (0, 1), (0, 1, 2)):
                for found in (None, "c"):
                    self.refused(right + ((0, places, (), found),), layers)

    def test_rounds_of_a_tie_that_is_not_kept(self):
        for name in "hijkmno":
            for paper in ((FIRST, LAST), (FIRST,), (LAST,), ((0, (0,), (), None),), ((0, (6,), (), None),), ((),), (None,)):
                behind = (16, tuple(tie for tie in STAND[1] if tie[0] != name))
                self.holds(STAND, name, (behind, paper), False)

    def test_the_right_paper_with_other_layers(self):
        paper = (FIRST, LAST)
        numbers = {tie[0]: number for number, tie in enumerate(BEHIND[1])}
        for name, part, thing in (
            # A kept one that didn't rise, a looked one that didn't, others that did, the found one not kept, or risen.
            ("b", 4, 1), ("e", 4, 0), ("h", 4, 1), ("j", 4, 0), ("k", 4, 1), ("c", 4, 2), ("f", 4, 1), ("b", 4, 3), ("n", 4, 1),
            ("m", 5, False), ("m", 4, 1), ("n", 5, True), ("j", 5, True), ("b", 5, False), ("k", 5, True),
            ("b", 3, 1), ("b", 1, 2), ("f", 0, "ee"), ("b", 4, 2 * 10 ** 30),
        ):
            self.holds(STAND, "a", (with_part(numbers[name], part, thing), paper), False)
        many, rows = BEHIND
        for other in (15, 17, 8, 24, 1):
            self.holds(STAND, "a", ((other, rows), paper), False)
        # The gone tie is still there, at whatever layer, kept or not; another one isn't; one came.
        for layer, kept in itertools.product((0, 1, 2), (True, False)):
            self.holds(STAND, "a", (layered(16, *rows, row("a", 1, 2, layer, kept)), paper), False)
        for number in range(len(rows)):
            self.holds(STAND, "a", ((many, rows[:number] + rows[number + 1:]), paper), False)
        self.holds(STAND, "a", (layered(16, *rows, row("p", 0, 1, 0, False)), paper), False)
        self.holds(STAND, "a", ((many, rows[::-1]), paper), False)
        self.holds(STAND, "a", (STAND, paper), False)
        self.holds(STAND, "a", ((16, ()), paper), False)

    def test_lists_for_tuples(self):
        pair = (BEHIND, (FIRST, LAST))
        many, rows = BEHIND
        for thing in (
            list(pair), ([many, rows], pair[1]), ((many, list(rows)), pair[1]), ((many, rows[:1] + (list(rows[1]),) + rows[2:]), pair[1]),
            (BEHIND, [FIRST, LAST]), (BEHIND, (list(FIRST), LAST)), (BEHIND, ((1, [0, 1], ("h",), None), LAST)),
            (BEHIND, ((1, (0, 1), ["h"], None), LAST)), (BEHIND, (FIRST, (0, (0, 1, 5), ("j",), ["m"]))),
            (BEHIND, (FIRST, (0, (0, 1, 5), ("j",), ("m",)))), (BEHIND, ((1, (0, 1), (("h",),), None), LAST)),
            (BEHIND, ((1, (0, 1), "h", None), LAST)), dict([pair]), (BEHIND, {FIRST: LAST}),
        ):
            self.holds(STAND, "a", thing, False)

    def test_truths_for_numbers(self):
        for paper in (
            ((True, (0, 1), ("h",), None), LAST), ((1, (False, 1), ("h",), None), LAST), ((1, (0, True), ("h",), None), LAST),
            (FIRST, (False, (0, 1, 5), ("j",), "m")), (FIRST, (0, (0, True, 5), ("j",), "m")), ((1, (0, 1), ("h",), False), LAST),
        ):
            self.holds(STAND, "a", (BEHIND, paper), False)
        for number, told in enumerate(BEHIND[1]):
            for part, thing in enumerate(told):
                if is_number(thing) and thing in (0, 1):
                    self.holds(STAND, "a", (with_part(number, part, bool(thing)), (FIRST, LAST)), False)
                if isinstance(thing, bool):
                    self.holds(STAND, "a", (with_part(number, part, int(thing)), (FIRST, LAST)), False)

    def test_no_pair(self):
        for thing in ((), (BEHIND,), (BEHIND, (FIRST, LAST), ()), ((FIRST, LAST), BEHIND), BEHIND, (FIRST, LAST), None, True):
            self.holds(STAND, "a", thing, False)

    def test_rounds_of_another_shape(self):
        for thing in ((), FIRST[:3], FIRST + (None,), (FIRST,), FIRST[1:]):
            self.holds(STAND, "a", (BEHIND, (thing, LAST)), False)
            self.holds(STAND, "a", (BEHIND, (FIRST, thing)), False)

    def test_any_things(self):
        for thing in ANY_THINGS:
            self.holds(STAND, "a", thing, False)
            self.holds(STAND, "a", (thing, (FIRST, LAST)), False)
            self.holds(STAND, "a", ((thing, BEHIND[1]), (FIRST, LAST)), False)
            self.holds(STAND, "a", ((16, thing), (FIRST, LAST)), False)
            self.holds(STAND, "a", (BEHIND, thing), False)
            self.holds(STAND, "a", (BEHIND, (thing,)), False)
            self.holds(STAND, "a", (BEHIND, (FIRST, thing)), False)
            self.holds(STAND, "a", (BEHIND, (thing, LAST)), False)
            self.holds(STAND, "a", (BEHIND, (FIRST, LAST, thing)), False)
            self.holds(STAND, "h", ((16, thing), thing), False)
            for part in range(4):
                for number, told in enumerate((FIRST, LAST)):
                    other = told[:part] + (thing,) + told[part + 1:]
                    paper = (other, LAST) if number == 0 else (FIRST, other)
                    # A few of the things are just what stands there.
                    self.holds(STAND, "a", (BEHIND, paper), repr(paper) == repr((FIRST, LAST)))
            self.holds(STAND, "a", (BEHIND, ((1, (0, 1, thing), ("h",), None), LAST)), False)
            self.holds(STAND, "a", (BEHIND, ((1, (thing, 1), ("h",), None), LAST)), thing == 0 and is_number(thing))
            self.holds(STAND, "a", (BEHIND, ((1, (0, 1), ("h", thing), None), LAST)), False)
            for part in range(6):
                other = with_part(3, part, thing)
                self.holds(STAND, "a", (other, (FIRST, LAST)), repr(other) == repr(BEHIND))

    def test_any_things_of_a_tie_that_is_not_kept(self):
        behind = (16, tuple(tie for tie in STAND[1] if tie[0] != "h"))
        for thing in ANY_THINGS:
            self.holds(STAND, "h", (behind, thing), thing == () and isinstance(thing, tuple))
            self.holds(STAND, "h", (thing, ()), False)

    def test_the_words_of_the_document_over_many(self):
        """Papers that are right but for one part, against a reading of [15] by another hand."""
        dice = random.Random(6)
        seen = {True: 0, False: 0}
        for layers in some_layered_stands(200):
            names = [tie[0] for tie in layers[1]]
            for tie in layers[1]:
                for behind, paper in all_goings(layers, tie[0], dice, 4):
                    if not paper:
                        continue
                    number = dice.randrange(len(paper))
                    layer, places, looked, found = paper[number]
                    other = dice.choice((
                        (layer, places, looked, None), (layer, places, looked, dice.choice(names)),
                        (layer, places, looked + (dice.choice(names),), found), (layer, places, looked[1:], found),
                        (layer, places, looked[::-1], found), (layer, places[1:], looked, found),
                        (layer, tuple(place for place in range(layers[0]) if place not in places), looked, found),
                    ))
                    paper = paper[:number] + (other,) + paper[number + 1:]
                    told = going_reckoned(layers, tie[0], paper)
                    seen[told is not None] += 1
                    self.assertIs(going_holds(layers, tie[0], (behind, paper)), told == behind)
                    if told is not None:
                        self.assertIs(going_holds(layers, tie[0], (told, paper)), True)
        self.assertGreater(min(seen.values()), 100)

    def test_all_looked_and_all_found_of_one_round(self):
        names = [tie[0] for tie in LIKE[1]]
        for places in subsets(range(4)):
            for looked in subsets(names):
                for found in [None] + names:
                    paper = ((0, places, looked, found),)
                    told = going_reckoned(LIKE, "b", paper)
                    behind = laid(LIKE, "b", paper) if told is None else told
                    self.assertIs(going_holds(LIKE, "b", (behind, paper)), told is not None)


if __name__ == "__main__":
    unittest.main()
