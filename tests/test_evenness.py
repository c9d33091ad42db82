"""[22], [4]: when all parts have two sides."""

import unittest

from asked import AGAIN, BRIEF, HISTORY, LIKE, even_by_doubling, full_history, ring
from joinedever.answering import answers_plainly
from joinedever.byhalves import answers_by_halves
from joinedever.evenness import even_behind, even_spans, first_odd
from joinedever.onebyone import answers_one_by_one
from joinedever.sides import sides_of
from joinedever.spans import has_moment, is_spans
from joinedever.stands import stand_at
from samples import MOST, come, go, is_number, moments_of, some_histories, some_history, stand_reckoned, stays_as_it_was

# A ring of three, whose last tie comes and goes.
THREE = (come(2, "a", 0, 1), come(2, "b", 1, 2))
HISTORIES = some_histories(40) + [HISTORY, AGAIN, LIKE, BRIEF, full_history()] + [ring(24, length) for length in (3, 4, 23)] + [
    some_history(seed, many=3 + seed % 3, names="abcdefgh", gap=seed % 3) for seed in range(16)
]


class Behind(unittest.TestCase):
    def told(self, history, truths):
        self.assertEqual(repr(stays_as_it_was(self, even_behind, history)), repr(truths))

    def test_of_no_deeds(self):
        for many in (1, 2, 24):
            self.told((many, ()), (True,))

    def test_by_hand(self):
        self.told(HISTORY, (True, True, True, False, False, True, True, True))
        self.told((3, THREE + (come(3, "c", 2, 0), go(4, "a"), come(5, "a", 0, 1))), (True, True, True, False, True, False))
        self.told(LIKE, (True,) * 8)
        self.told(full_history(), (True,) * 60 + (False,))

    def test_over_many(self):
        seen = set()
        for history in HISTORIES:
            many, deeds = history
            told = stays_as_it_was(self, even_behind, history)
            self.assertIs(type(told), tuple)
            self.assertTrue(all(type(truth) is bool for truth in told))
            self.assertEqual(len(told), len(deeds) + 1)
            for n in range(len(deeds) + 1):
                stand = stand_reckoned(history, n)
                self.assertIs(told[n], sides_of(many, stand)[0] == "sides")
                if n % 4 == len(deeds) % 4:
                    self.assertIs(told[n], even_by_doubling(many, stand))
            self.assertEqual(told, even_behind(history))
            seen.update(told)
        self.assertEqual(seen, {True, False})

    def test_as_the_ask_is_answered_in_all_three_ways(self):
        for history in HISTORIES:
            asks = tuple(("even", n) for n in range(len(history[1]) + 1))
            told = even_behind(history)
            for way in (answers_plainly, answers_by_halves, answers_one_by_one):
                self.assertEqual(repr(way(history, asks)), repr(told))


class Spans(unittest.TestCase):
    def told(self, history, spans):
        self.assertEqual(repr(stays_as_it_was(self, even_spans, history)), repr(spans))

    def test_of_no_deeds(self):
        for many in (1, 2, 24):
            self.told((many, ()), ((0, None),))

    def test_where_no_ring_is_odd(self):
        self.told(LIKE, ((0, None),))
        self.told(ring(24, 24), ((0, None),))

    def test_an_odd_ring_comes_and_goes(self):
        self.told(HISTORY, ((0, 3), (5, None)))
        self.told((3, THREE + (come(3, "c", 2, 0),)), ((0, 3),))
        self.told((3, THREE + (come(3, "c", 2, 0), go(4, "a"))), ((0, 3), (4, None)))
        self.told((3, THREE + (come(3, "c", 2, 0), go(4, "a"), come(6, "a", 0, 1))), ((0, 3), (4, 6)))
        self.told((3, THREE + (come(3, "c", 2, 0), go(MOST, "a"))), ((0, 3), (MOST, None)))

    def test_ties_that_come_and_go_at_one_moment(self):
        # Odd behind some deeds, but at no moment.
        history = (3, THREE + (come(3, "c", 2, 0), go(3, "c")))
        self.assertEqual(even_behind(history), (True, True, True, False, True))
        self.told(history, ((0, None),))
        # Even behind some deeds of one moment, so that two odd stretches are one.
        history = (3, THREE + (come(3, "c", 2, 0), go(5, "c"), come(5, "c", 0, 2), go(8, "b")))
        self.told(history, ((0, 3), (8, None)))

    def test_stretches_that_touch_are_one(self):
        history = (3, THREE + (come(3, "d", 0, 1), go(4, "a"), come(5, "e", 1, 2), come(9, "c", 2, 0)))
        self.told(history, ((0, 9),))

    def test_at_nought(self):
        ring_at_0 = (come(0, "a", 0, 1), come(0, "b", 1, 2), come(0, "c", 2, 0))
        self.told((3, ring_at_0), ())
        self.told((3, ring_at_0 + (go(0, "a"),)), ((0, None),))
        self.told((3, ring_at_0 + (go(1, "a"),)), ((1, None),))
        self.told((3, ring_at_0 + (go(1, "a"), come(2, "a", 1, 0))), ((1, 2),))

    def test_at_the_last_moment(self):
        self.told((3, THREE + (come(MOST, "c", 2, 0),)), ((0, MOST),))

    def test_never(self):
        self.told((24, (come(0, "a", 21, 22), come(0, "b", 22, 23), come(0, "c", 23, 21))), ())

    def test_over_many(self):
        for history in HISTORIES:
            many = history[0]
            told = stays_as_it_was(self, even_spans, history)
            self.assertIs(is_spans(told), True)
            truths = even_behind(history)
            for moment in moments_of(history):
                n = sum(deed[1] <= moment for deed in history[1])
                self.assertIs(has_moment(told, moment), truths[n])
                self.assertIs(has_moment(told, moment), sides_of(many, stand_at(history, moment))[0] == "sides")
            self.assertIs(has_moment(told, 10 ** 30), truths[-1])
            self.assertEqual(told, even_spans(history))


class FirstOdd(unittest.TestCase):
    def test_by_hand(self):
        self.assertEqual(first_odd(HISTORY), 3)
        self.assertEqual(first_odd((3, THREE + (come(3, "c", 2, 0), go(3, "c")))), 3)
        self.assertEqual(first_odd((3, (come(0, "a", 0, 1), come(0, "b", 1, 2), come(0, "c", 2, 0)))), 3)
        self.assertEqual(first_odd(full_history()), 60)
        self.assertEqual(first_odd((3, THREE + (go(2, "a"), come(4, "c", 2, 0), come(5, "a", 1, 0), go(6, "b")))), 5)

    def test_none(self):
        for history in ((1, ()), (24, ()), LIKE, ring(24, 24), (3, THREE)):
            self.assertIs(stays_as_it_was(self, first_odd, history), None)

    def test_over_many(self):
        seen = set()
        for history in HISTORIES:
            told = stays_as_it_was(self, first_odd, history)
            truths = even_behind(history)
            seen.add(told is None)
            self.assertEqual(told, first_odd(history))
            if told is None:
                self.assertNotIn(False, truths)
                self.assertEqual(even_spans(history), ((0, None),))
            else:
                self.assertTrue(is_number(told))
                self.assertGreater(told, 2)
                self.assertEqual(truths[:told + 1], (True,) * told + (False,))
        self.assertEqual(seen, {True, False})


if __name__ == "__main__":
    unittest.main()
