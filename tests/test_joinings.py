"""[26], [4]: when and how long places are joined."""

import itertools
import unittest

from asked import AGAIN, BRIEF, HISTORY, LIKE, full_history, ring
from joinedever.joinings import first_joined, how_long, joined_spans, last_joined, longest_pair
from joinedever.spans import has_moment, is_spans, length_below, other_spans
from joinedever.stands import stand_at
from samples import (
    MOST, come, go, is_number, moments_of, reach_reckoned, some_histories, some_history, stays_as_it_was,
)

ALL = ((0, None),)
# 0 and 1 are joined from 3 on to 8 by "a", from 8 on to 12 by "b" and "c", and from 20 on; 3 is tied at one moment alone.
TOLD = (4, (
    come(3, "a", 0, 1), come(5, "b", 0, 2), come(8, "c", 2, 1), go(8, "a"), go(12, "c"), come(15, "d", 0, 3), go(15, "d"),
    come(20, "a", 1, 0),
))
HISTORIES = [TOLD, HISTORY, AGAIN, LIKE, BRIEF] + some_histories(30)


def some_pairs(many):
    """All pairs of few places, some of many; a place twice, too."""
    pairs = list(itertools.product(range(many), repeat=2))
    return pairs if many < 8 else pairs[::41]


class Spans(unittest.TestCase):
    def told(self, history, one, other, spans):
        self.assertEqual(repr(stays_as_it_was(self, joined_spans, history, one, other)), repr(spans))
        self.assertEqual(repr(joined_spans(history, other, one)), repr(spans))

    def test_of_a_place_with_itself(self):
        for history in HISTORIES:
            for place in range(history[0]):
                self.told(history, place, place, ALL)

    def test_of_no_deeds(self):
        self.told((24, ()), 0, 23, ())
        self.told((1, ()), 0, 0, ALL)

    def test_joined_by_others_in_turn(self):
        self.told(TOLD, 0, 1, ((3, 12), (20, None)))
        self.told(TOLD, 0, 2, ((5, None),))
        self.told(TOLD, 1, 2, ((5, 12), (20, None)))

    def test_spans_that_touch_are_one(self):
        history = (2, (come(1, "a"), come(4, "b"), go(4, "a"), go(6, "b"), come(6, "c"), go(9, "c")))
        self.told(history, 0, 1, ((1, 9),))
        history = (2, (come(1, "a"), go(4, "a"), come(4, "b"), go(6, "b")))
        self.told(history, 0, 1, ((1, 6),))
        history = (2, (come(1, "a"), go(4, "a"), come(5, "b"), go(6, "b")))
        self.told(history, 0, 1, ((1, 4), (5, 6)))

    def test_ties_that_come_and_go_at_one_moment(self):
        self.told(TOLD, 0, 3, ())
        self.told(TOLD, 3, 1, ())
        self.told(BRIEF, 0, 1, ())
        # Gone and come again at one moment.
        self.told((2, (come(2, "a"), go(5, "a"), come(5, "a"), go(7, "a"))), 0, 1, ((2, 7),))

    def test_ends(self):
        self.told((2, (come(0, "a"),)), 0, 1, ALL)
        self.told((2, (come(0, "a"), go(1, "a"))), 0, 1, ((0, 1),))
        self.told((2, (come(MOST, "a"),)), 0, 1, ((MOST, None),))
        self.told((2, (come(0, "a"), go(MOST, "a"))), 0, 1, ((0, MOST),))

    def test_over_many(self):
        for history in HISTORIES:
            many = history[0]
            rows = [(moment, reach_reckoned(many, stand_at(history, moment))) for moment in moments_of(history)]
            for one, other in some_pairs(many):
                told = stays_as_it_was(self, joined_spans, history, one, other)
                self.assertIs(is_spans(told), True)
                for moment, reach in rows:
                    self.assertIs(has_moment(told, moment), reach[one][other])
                self.assertEqual(joined_spans(history, one, other), told)


class Moments(unittest.TestCase):
    def first(self, history, one, other, moment):
        self.assertEqual(repr(stays_as_it_was(self, first_joined, history, one, other)), repr(moment))

    def last(self, end, moment, history=TOLD, one=0, other=1):
        self.assertEqual(repr(stays_as_it_was(self, last_joined, history, one, other, end)), repr(moment))

    def long(self, end, count, history=TOLD, one=0, other=1):
        self.assertEqual(repr(stays_as_it_was(self, how_long, history, one, other, end)), repr(count))

    def test_the_first(self):
        self.first(TOLD, 0, 1, 3)
        self.first(TOLD, 2, 0, 5)
        self.first(TOLD, 2, 1, 5)
        self.first(TOLD, 0, 3, None)
        self.first(TOLD, 3, 3, 0)
        self.first((2, (come(0, "a"),)), 1, 0, 0)
        self.first((2, (come(4, "a"), go(4, "a"), come(9, "a"))), 0, 1, 9)
        self.first((2, (come(MOST, "a"),)), 0, 1, MOST)
        self.first((2, ()), 0, 1, None)

    def test_the_last_below_an_end(self):
        # At a span's low, within it, at its high, behind it, at the next one's low.
        for end, moment in (
            (0, None), (1, None), (3, None), (4, 3), (7, 6), (8, 7), (9, 8), (11, 10), (12, 11), (13, 11), (19, 11), (20, 11),
            (21, 20), (99, 98), (MOST, MOST - 1),
        ):
            self.last(end, moment)

    def test_the_last_of_a_place_with_itself_and_of_none(self):
        for end in (1, 2, 12, MOST):
            self.last(end, end - 1, one=2, other=2)
            self.last(end, None, one=0, other=3)
        self.last(0, None, one=2, other=2)
        self.last(0, None, (1, ()), 0, 0)
        self.last(1, 0, (2, (come(0, "a"),)))
        self.last(1, None, (2, (come(1, "a"),)))

    def test_how_long(self):
        for end, count in (
            (0, 0), (3, 0), (4, 1), (8, 5), (12, 9), (13, 9), (20, 9), (21, 10), (30, 19), (MOST, MOST - 11),
        ):
            self.long(end, count)
        for end in (0, 1, 15, MOST):
            self.long(end, end, one=3, other=3)
            self.long(end, 0, one=0, other=3)
            self.long(end, 0, (2, ()))
        self.long(MOST, MOST, (2, (come(0, "a"),)))
        self.long(MOST, 0, (2, (come(MOST, "a"),)))

    def test_they_agree_with_one_another(self):
        for history in HISTORIES:
            moments = moments_of(history)
            for one, other in some_pairs(history[0])[::3]:
                spans = joined_spans(history, one, other)
                first = stays_as_it_was(self, first_joined, history, one, other)
                among = [moment for moment in moments if has_moment(spans, moment)]
                # All changes at deeds' moments, and these are among the moments looked at.
                self.assertEqual(first, among[0] if among else None)
                for end in moments:
                    count = stays_as_it_was(self, how_long, history, one, other, end)
                    self.assertTrue(is_number(count))
                    self.assertEqual(count, length_below(spans, end))
                    self.assertEqual(count + length_below(other_spans(spans), end), end)
                    last = stays_as_it_was(self, last_joined, history, one, other, end)
                    self.assertIs(last is None, count == 0)
                    if last is not None:
                        self.assertTrue(is_number(last) and first <= last < end)
                        self.assertIs(has_moment(spans, last), True)
                        self.assertEqual(how_long(history, one, other, last + 1), count)

    def test_counted_moment_by_moment(self):
        for seed in range(10):
            history = some_history(seed, many=4, deeds=16, names="abcd", gap=2)
            reach = [reach_reckoned(4, stand_at(history, moment)) for moment in range(40)]
            for one, other in itertools.product(range(4), repeat=2):
                truths = [row[one][other] for row in reach]
                for end in range(0, 40, 3):
                    self.assertEqual(how_long(history, one, other, end), sum(truths[:end]))
                    lasts = [moment for moment in range(end) if truths[moment]]
                    self.assertEqual(last_joined(history, one, other, end), lasts[-1] if lasts else None)


class Longest(unittest.TestCase):
    def told(self, history, end, pair):
        self.assertEqual(repr(stays_as_it_was(self, longest_pair, history, end)), repr(pair))

    def test_of_one_place(self):
        for end in (0, 1, MOST):
            self.told((1, ()), end, None)

    def test_of_none_that_are_ever_joined(self):
        for many in (2, 3, 24):
            for end in (0, 1, MOST):
                self.told((many, ()), end, (0, 1))
        self.told(BRIEF, MOST, (0, 1))
        self.told((3, (come(5, "a", 1, 2),)), 5, (0, 1))
        self.told((3, (come(5, "a", 1, 2),)), 6, (1, 2))

    def test_by_hand(self):
        for end, pair in ((0, (0, 1)), (5, (0, 1)), (12, (0, 1)), (13, (0, 1)), (15, (0, 2)), (MOST, (0, 2))):
            self.told(TOLD, end, pair)

    def test_of_like_many_the_first_by_pairs(self):
        self.told((4, (come(1, "a", 3, 2), come(1, "b", 1, 0))), 9, (0, 1))
        self.told((4, (come(1, "a", 3, 2), come(1, "b", 1, 2))), 9, (1, 2))
        self.told((5, (come(1, "a", 3, 2), come(2, "b", 0, 4))), 9, (2, 3))
        self.told((5, (come(1, "a", 3, 2), come(1, "b", 0, 4))), 9, (0, 4))
        self.told((24, (come(1, "a", 23, 22),)), 2, (22, 23))
        self.told(ring(24, 24), 5, (0, 1))

    def test_over_many(self):
        for history in HISTORIES + [full_history()]:
            many = history[0]
            moments = moments_of(history)
            for end in moments[::max(1, len(moments) // (6 if many < 8 else 1))]:
                told = stays_as_it_was(self, longest_pair, history, end)
                if many == 1:
                    self.assertIs(told, None)
                    continue
                self.assertEqual((type(told), len(told)), (tuple, 2))
                self.assertTrue(all(is_number(place) for place in told) and told[0] < told[1])
                pairs = list(itertools.combinations(range(many), 2))
                longs = [how_long(history, one, other, end) for one, other in (pairs if many < 8 else pairs[::7])]
                long = how_long(history, told[0], told[1], end)
                self.assertLessEqual(max(longs), long)
                if many < 8:
                    self.assertEqual(told, pairs[longs.index(max(longs))])
                self.assertEqual(longest_pair(history, end), told)


if __name__ == "__main__":
    unittest.main()
