"""[9]: spans, as a form and as sets of moments."""

import itertools
import random
import unittest

from joinedever.spans import common_spans, has_moment, is_spans, joint_spans, length_below, other_spans
from samples import MOST, ODD_THINGS, deep_thing, is_number, stays_as_it_was, wide_thing

ALL = ((0, None),)
FORTY = 10 ** 39
SIXTY = tuple((3 * k, 3 * k + 2) for k in range(60))
SIXTY_ENDLESS = SIXTY[:-1] + ((MOST, None),)


def spans_of(truths, ever):
    """Spans of the moments that are marked, and of all behind them where ever is so; truth by truth."""
    spans = []
    low = None
    for moment, truth in enumerate(list(truths) + [ever]):
        if truth and low is None:
            low = moment
        if not truth and low is not None:
            spans.append((low, moment))
            low = None
    if low is not None:
        spans.append((low, None))
    return tuple(spans)


def marked(width):
    """All sets of moments below width, each with and without all behind."""
    for truths in itertools.product((False, True), repeat=width):
        for ever in (False, True):
            yield truths, ever, spans_of(truths, ever)


class Form(unittest.TestCase):
    def told(self, thing, truth):
        with self.subTest(thing=repr(thing)[:200]):
            self.assertIs(stays_as_it_was(self, is_spans, thing), truth)
            self.assertIs(is_spans(thing), truth)

    def test_spans(self):
        for thing in (
            (), ((0, 1),), ((0, None),), ((5, 9),), ((MOST, None),), ((0, MOST),), ((0, 1), (2, 3)), ((0, 1), (2, None)),
            ((1, 2), (3, 4), (5, 6), (8, 9)), SIXTY, SIXTY_ENDLESS,
        ):
            self.told(thing, True)

    def test_all_small_spans(self):
        for truths, ever, spans in marked(8):
            self.assertIs(is_spans(spans), True)

    def test_hundreds_of_pairs(self):
        pairs = tuple((2 * k, 2 * k + 1) for k in range(900))
        self.told(pairs, True)
        self.told(pairs + ((FORTY, None),), True)
        self.told(pairs + ((1799, None),), False)
        self.told(pairs + ((1800, 1801),), True)
        self.told(pairs[:400] + ((0, 1),) + pairs[401:], False)
        self.told(pairs[:400] + ((800, None),) + pairs[401:], False)
        self.told(wide_thing(6000), False)

    def test_numbers_of_forty_figures(self):
        self.told(((0, FORTY),), True)
        self.told(((FORTY, FORTY + 1),), True)
        self.told(((FORTY, None),), True)
        self.told(((FORTY, FORTY),), False)
        self.told(((-FORTY, FORTY),), False)

    def test_none_elsewhere(self):
        for thing in (
            ((None, 1),), ((None, None),), ((0, None), (1, 2)), ((0, None), (5, None)), ((0, 1), (2, None), (4, 5)), (None,),
        ):
            self.told(thing, False)

    def test_touching_lying_over_and_not_rising(self):
        for thing in (
            ((0, 1), (1, 2)), ((0, 1), (1, None)), ((0, 3), (2, 5)), ((0, 9), (2, 5)), ((4, 5), (0, 1)), ((0, 1), (0, 1)),
            ((0, 1), (2, 3), (3, 4)), ((0, 1), (2, 3), (0, None)), ((1, 2), (0, None)),
        ):
            self.told(thing, False)

    def test_low_not_less_than_high(self):
        for thing in (((0, 0),), ((1, 0),), ((5, 5),), ((0, 1), (3, 3)), ((0, 1), (4, 3)), ((MOST, 0),)):
            self.told(thing, False)

    def test_below_nought(self):
        for thing in (((-1, 0),), ((-1, 5),), ((-1, None),), ((-3, -2),), ((-3, -2), (0, 1))):
            self.told(thing, False)

    def test_truths(self):
        for thing in (((0, True),), ((False, 1),), ((False, None),), ((True, 5),), ((0, False),), ((True, None),), (True,)):
            self.told(thing, False)

    def test_lists_for_tuples(self):
        for thing in ([], [(0, 1)], ([0, 1],), ([0, None],), ((0, 1), [2, 3]), [[0, 1]], {0: 1}, ({0: 1},)):
            self.told(thing, False)

    def test_pairs_of_one_and_of_three(self):
        for thing in (((),), ((0,),), ((0, 1, 2),), ((0, 1), (2,)), ((0, 1), (2, 3, 4)), (0, 1), (0, None)):
            self.told(thing, False)

    def test_things_of_other_kinds(self):
        for thing in ODD_THINGS:
            if thing != ():
                self.told(thing, False)
        for thing in (
            0, 5, FORTY, "ab", ("ab",), (("a", "b"),), ((0, "1"),), (("0", 1),), ((0, (1,)),), (((0,), 1),), ((0, [1]),),
            (((0, 1),),), deep_thing(20), (deep_thing(19),), ((0, deep_thing(18)),),
        ):
            self.told(thing, False)


class Moments(unittest.TestCase):
    def test_borders(self):
        spans = ((0, 2), (5, 6), (9, None))
        truths = [True, True, False, False, False, True, False, False, False, True, True]
        self.assertEqual([has_moment(spans, moment) for moment in range(11)], truths)
        self.assertIs(has_moment(spans, MOST), True)
        self.assertIs(has_moment(spans[:2], MOST), False)
        self.assertIs(has_moment(((MOST - 1, MOST),), MOST), False)
        self.assertIs(has_moment(((MOST, None),), MOST), True)
        self.assertIs(has_moment(((MOST, None),), MOST - 1), False)

    def test_none_and_all(self):
        for moment in (0, 1, 7, MOST):
            self.assertIs(has_moment((), moment), False)
            self.assertIs(has_moment(ALL, moment), True)

    def test_length_at_borders(self):
        spans = ((0, 2), (5, 6), (9, None))
        self.assertEqual([length_below(spans, end) for end in range(12)], [0, 1, 2, 2, 2, 2, 3, 3, 3, 3, 4, 5])
        self.assertEqual(length_below(spans, MOST), 3 + MOST - 9)
        self.assertEqual(length_below(spans[:2], MOST), 3)
        self.assertEqual(length_below(((MOST, None),), MOST), 0)
        self.assertEqual(length_below(((MOST - 1, None),), MOST), 1)

    def test_length_of_none_and_all(self):
        for end in (0, 1, 7, MOST):
            self.assertEqual(length_below((), end), 0)
            self.assertEqual(length_below(ALL, end), end)

    def test_all_small_spans(self):
        for truths, ever, spans in marked(6):
            row = list(truths) + [ever] * 4
            for moment, truth in enumerate(row):
                self.assertIs(stays_as_it_was(self, has_moment, spans, moment), truth)
                told = stays_as_it_was(self, length_below, spans, moment)
                self.assertEqual(told, sum(row[:moment]))
                self.assertTrue(is_number(told))

    def test_sixty_pairs(self):
        for k in range(60):
            row = [has_moment(SIXTY, moment) for moment in (3 * k, 3 * k + 1, 3 * k + 2)]
            self.assertEqual(row, [True, True, False])
        self.assertEqual(length_below(SIXTY, MOST), 120)
        self.assertEqual(length_below(SIXTY_ENDLESS, MOST), 118)


class Sets(unittest.TestCase):
    def test_all_pairs_of_small_spans(self):
        rows = list(marked(4))
        for truths, ever, one in rows:
            other_truths = [not truth for truth in truths]
            self.assertEqual(stays_as_it_was(self, other_spans, one), spans_of(other_truths, not ever))
            for their_truths, their_ever, other in rows:
                both = [here and there for here, there in zip(truths, their_truths)]
                either = [here or there for here, there in zip(truths, their_truths)]
                told = stays_as_it_was(self, common_spans, one, other)
                self.assertEqual(told, spans_of(both, ever and their_ever))
                told = stays_as_it_was(self, joint_spans, one, other)
                self.assertEqual(told, spans_of(either, ever or their_ever))

    def test_common(self):
        for one, other, common in (
            (((0, 5),), ((5, 9),), ()),
            (((0, 5),), ((4, 9),), ((4, 5),)),
            (((2, 5),), ((2, 9),), ((2, 5),)),
            (((2, 9),), ((5, 9),), ((5, 9),)),
            (((2, 9),), ((4, 5),), ((4, 5),)),
            (((2, None),), ((4, None),), ((4, None),)),
            (((2, None),), ((0, 3), (7, 8)), ((2, 3), (7, 8))),
            (((0, 3), (5, 9)), ((2, 6), (8, None)), ((2, 3), (5, 6), (8, 9))),
            (((MOST, None),), ((0, MOST),), ()),
        ):
            self.assertEqual(common_spans(one, other), common)
            self.assertEqual(common_spans(other, one), common)

    def test_joint(self):
        for one, other, joint in (
            (((0, 5),), ((5, 9),), ((0, 9),)),
            (((0, 5),), ((6, 9),), ((0, 5), (6, 9))),
            (((0, 5),), ((4, 9),), ((0, 9),)),
            (((2, 9),), ((4, 5),), ((2, 9),)),
            (((2, 5),), ((2, 9),), ((2, 9),)),
            (((2, None),), ((4, None),), ((2, None),)),
            (((2, None),), ((0, 1),), ((0, 1), (2, None))),
            (((2, None),), ((0, 2),), ALL),
            (((0, 1), (2, 3)), ((1, 2), (3, 4)), ((0, 4),)),
            (((0, 1), (4, 5)), ((2, 3), (5, None)), ((0, 1), (2, 3), (4, None))),
            (((MOST, None),), ((0, MOST),), ALL),
        ):
            self.assertEqual(joint_spans(one, other), joint)
            self.assertEqual(joint_spans(other, one), joint)

    def test_other(self):
        for spans, others in (
            ((), ALL), (ALL, ()), (((0, 1),), ((1, None),)), (((1, 2),), ((0, 1), (2, None))),
            (((5, None),), ((0, 5),)), (((0, 2), (4, None)), ((2, 4),)), (((MOST, None),), ((0, MOST),)),
            (((1, 3), (4, MOST)), ((0, 1), (3, 4), (MOST, None))),
        ):
            self.assertEqual(other_spans(spans), others)
            self.assertEqual(other_spans(others), spans)

    def test_with_themselves_with_none_and_with_all(self):
        for spans in ((), ALL, ((0, 1),), ((3, None),), ((1, 4), (6, 7)), SIXTY, SIXTY_ENDLESS):
            self.assertEqual(common_spans(spans, spans), spans)
            self.assertEqual(joint_spans(spans, spans), spans)
            for one, other in ((spans, ()), ((), spans)):
                self.assertEqual(common_spans(one, other), ())
                self.assertEqual(joint_spans(one, other), spans)
            for one, other in ((spans, ALL), (ALL, spans)):
                self.assertEqual(common_spans(one, other), spans)
                self.assertEqual(joint_spans(one, other), ALL)
            others = other_spans(spans)
            self.assertEqual(other_spans(others), spans)
            self.assertEqual(common_spans(spans, others), ())
            self.assertEqual(joint_spans(spans, others), ALL)

    def some_spans(self, dice, ever):
        borders = sorted(dice.sample(range(400), 120))
        spans = tuple(zip(borders[::2], borders[1::2]))
        return spans[:-1] + ((spans[-1][0], None),) if ever else spans

    def test_sixty_pairs_each(self):
        for seed in range(12):
            dice = random.Random(seed)
            one, other = self.some_spans(dice, seed % 2 == 0), self.some_spans(dice, seed % 3 == 0)
            both, either = common_spans(one, other), joint_spans(one, other)
            rows = [[has_moment(spans, moment) for moment in range(402)] for spans in (one, other)]
            mine, theirs = rows
            self.assertEqual(both, spans_of([a and b for a, b in zip(mine, theirs)], mine[-1] and theirs[-1]))
            self.assertEqual(either, spans_of([a or b for a, b in zip(mine, theirs)], mine[-1] or theirs[-1]))

    def test_what_was_told_may_be_handed_in_again(self):
        between = tuple((3 * k + 2, 3 * k + 3) for k in range(60))
        self.assertEqual(joint_spans(SIXTY, between), ((0, 180),))
        shifted = tuple((1000 + 3 * k, 1000 + 3 * k + 2) for k in range(60))
        both = joint_spans(SIXTY, shifted)
        self.assertEqual(both, SIXTY + shifted)
        self.assertEqual(common_spans(both, both), both)
        self.assertEqual(other_spans(other_spans(both)), both)

    def test_kinds_of_what_is_told(self):
        for told in (common_spans(SIXTY, ALL), joint_spans(SIXTY, ((1, 9),)), other_spans(SIXTY)):
            self.assertIs(type(told), tuple)
            self.assertIs(is_spans(told), True)


if __name__ == "__main__":
    unittest.main()
