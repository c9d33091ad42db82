"""[6]: stands behind deeds and at moments."""

import unittest

from joinedever.spans import has_moment, is_spans
from joinedever.stands import deeds_by, spans_where, stand_at, stand_behind, stretches_of
from samples import MOST, come, go, is_number, moments_of, some_histories, stand_reckoned, stays_as_it_was

CROWDED = (4, (
    come(3, "b", 0, 1, 7), come(3, "a", 2, 1, 5), go(3, "b"), come(5, "c", 3, 0, 0),
    come(5, "b", 3, 2, 9), go(8, "a"), come(8, "d", 0, 1, 1), go(8, "d"), come(MOST, "e", 1, 3, MOST),
))


class DeedsBy(unittest.TestCase):
    def test_at_each_moment_one_less_and_one_more(self):
        for moment, count in (
            (0, 0), (2, 0), (3, 3), (4, 3), (5, 5), (6, 5), (7, 5), (8, 8), (9, 8), (MOST - 1, 8), (MOST, 9),
        ):
            told = deeds_by(CROWDED, moment)
            self.assertEqual(told, count, moment)
            self.assertTrue(is_number(told))

    def test_without_deeds(self):
        for moment in (0, 1, MOST):
            self.assertEqual(deeds_by((1, ()), moment), 0)

    def test_deeds_at_nought(self):
        history = (2, (come(0, "a"), go(0, "a"), come(1, "b")))
        self.assertEqual([deeds_by(history, moment) for moment in (0, 1, MOST)], [2, 3, 3])

    def test_many_histories(self):
        for history in some_histories():
            moments = {0, MOST} | {deed[1] + step for deed in history[1] for step in (-1, 0, 1)}
            for moment in sorted(moments):
                count = 0
                while count < len(history[1]) and history[1][count][1] <= moment:
                    count += 1
                self.assertEqual(stays_as_it_was(self, deeds_by, history, moment), count)


class Behind(unittest.TestCase):
    def test_each_number_of_deeds(self):
        a, b, c = ("a", 2, 1, 5), ("b", 0, 1, 7), ("c", 3, 0, 0)
        again, d, e = ("b", 3, 2, 9), ("d", 0, 1, 1), ("e", 1, 3, MOST)
        stands = [(), (b,), (a, b), (a,), (a, c), (a, again, c), (again, c), (again, c, d), (again, c), (again, c, e)]
        self.assertEqual([stand_behind(CROWDED, n) for n in range(10)], stands)

    def test_as_it_came_last(self):
        history = (4, (come(1, "a", 0, 1, 5), go(2, "a"), come(3, "a", 3, 2, 6)))
        self.assertEqual(stand_behind(history, 1), (("a", 0, 1, 5),))
        self.assertEqual(stand_behind(history, 2), ())
        self.assertEqual(stand_behind(history, 3), (("a", 3, 2, 6),))

    def test_places_stay_in_the_order_told(self):
        history = (3, (come(1, "b", 2, 0, 1), come(1, "a", 1, 0, 3)))
        self.assertEqual(stand_behind(history, 2), (("a", 1, 0, 3), ("b", 2, 0, 1)))

    def test_rises_by_names_as_texts_do(self):
        names = ("b", "ab", "a", "zz", "z", "abc", "ba")
        history = (2, tuple(come(1, name) for name in names))
        self.assertEqual([tie[0] for tie in stand_behind(history, 7)], ["a", "ab", "abc", "b", "ba", "z", "zz"])

    def test_sixty_ties(self):
        names = [one + other for one in "abcdef" for other in "abcdefghij"]
        history = (24, tuple(come(1, name, 5, 23, 2) for name in reversed(names)))
        self.assertEqual(stand_behind(history, 60), tuple((name, 5, 23, 2) for name in names))

    def test_without_deeds(self):
        self.assertEqual(stand_behind((1, ()), 0), ())

    def test_many_histories(self):
        for history in some_histories():
            for n in range(len(history[1]) + 1):
                told = stays_as_it_was(self, stand_behind, history, n)
                self.assertEqual(told, stand_reckoned(history, n))
                self.assertEqual(told, stand_behind(history, n))
                self.assertIs(type(told), tuple)
                self.assertTrue(all(type(tie) is tuple for tie in told))


class At(unittest.TestCase):
    def test_at_each_moment_one_less_and_one_more(self):
        for moment, n in (
            (0, 0), (2, 0), (3, 3), (4, 3), (5, 5), (6, 5), (7, 5), (8, 8), (9, 8), (MOST - 1, 8), (MOST, 9),
        ):
            self.assertEqual(stand_at(CROWDED, moment), stand_reckoned(CROWDED, n), moment)

    def test_comes_and_goes_at_one_moment(self):
        history = (2, (come(4, "a"), go(4, "a")))
        for moment in (0, 3, 4, 5, MOST):
            self.assertEqual(stand_at(history, moment), ())

    def test_goes_and_comes_again_at_one_moment(self):
        history = (3, (come(4, "a", 0, 1, 1), go(6, "a"), come(6, "a", 1, 2, 3)))
        self.assertEqual(stand_at(history, 5), (("a", 0, 1, 1),))
        self.assertEqual(stand_at(history, 6), (("a", 1, 2, 3),))

    def test_there_from_nought(self):
        self.assertEqual(stand_at((2, (come(0, "a"),)), 0), (("a", 0, 1, 0),))

    def test_without_deeds(self):
        self.assertEqual(stand_at((1, ()), 0), ())
        self.assertEqual(stand_at((1, ()), MOST), ())

    def test_many_histories(self):
        for history in some_histories():
            moments = {0, MOST} | {deed[1] + step for deed in history[1] for step in (0, 1)}
            for moment in sorted(moments):
                n = sum(deed[1] <= moment for deed in history[1])
                self.assertEqual(stays_as_it_was(self, stand_at, history, moment), stand_reckoned(history, n))


class Stretches(unittest.TestCase):
    def test_by_hand(self):
        self.assertEqual(stretches_of((1, ())), [(0, None, 0)])
        self.assertEqual(stretches_of((2, (come(0, "a"), go(0, "a"), come(1, "b")))), [(0, 1, 2), (1, None, 3)])
        self.assertEqual(stretches_of(CROWDED), [(0, 3, 0), (3, 5, 3), (5, 8, 5), (8, MOST, 8), (MOST, None, 9)])

    def test_spans_where_something_is_so(self):
        truths = [True, False, False, True, True, True, False, True, False, True]
        self.assertEqual(spans_where(CROWDED, truths), ((0, 8), (MOST, None)))
        self.assertEqual(spans_where(CROWDED, [not truth for truth in truths]), ((8, MOST),))
        self.assertEqual(spans_where(CROWDED, [True] * 10), ((0, None),))
        self.assertEqual(spans_where(CROWDED, [False] * 10), ())

    def test_over_many(self):
        for history in some_histories():
            stretches = stays_as_it_was(self, stretches_of, history)
            self.assertEqual([low for low, high, n in stretches[1:]], [high for low, high, n in stretches[:-1]])
            self.assertEqual((stretches[0][0], stretches[-1][1]), (0, None))
            for low, high, n in stretches:
                self.assertTrue(high is None or low < high)
                self.assertEqual((deeds_by(history, low), deeds_by(history, MOST if high is None else high - 1)), (n, n))
            truths = [n % 3 == 0 for n in range(len(history[1]) + 1)]
            spans = spans_where(history, truths)
            self.assertIs(is_spans(spans), True)
            for moment in moments_of(history):
                self.assertIs(has_moment(spans, moment), truths[deeds_by(history, moment)])


if __name__ == "__main__":
    unittest.main()
