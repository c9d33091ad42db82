"""[8] lives, [9] the spans of a name."""

import unittest

from joinedever.lives import lives_of, there_spans
from joinedever.spans import has_moment, is_spans
from joinedever.stands import stand_at
from samples import LETTERS, MOST, come, go, is_number, some_histories, stand_reckoned, stays_as_it_was

AGAIN = (4, (
    come(2, "b", 0, 1, 7), come(3, "a", 2, 1, 5), go(4, "b"), come(4, "c", 0, 2, 0),
    come(9, "b", 3, 2, 8), go(9, "a"), go(9, "c"), come(9, "c", 1, 0, 1), go(11, "c"),
))


class Lives(unittest.TestCase):
    def test_without_deeds(self):
        self.assertEqual(lives_of((1, ())), ())

    def test_a_tie_that_stays(self):
        self.assertEqual(lives_of((2, (come(5, "a", 1, 0, 3),))), (("a", 0, 1, 1, 0, 3),))
        history = (2, (come(5, "a", 1, 0, 3), come(5, "b"), go(6, "b")))
        self.assertEqual(lives_of(history), (("a", 0, 3, 1, 0, 3), ("b", 1, 2, 0, 1, 0)))

    def test_a_tie_that_goes_by_the_last_deed(self):
        self.assertEqual(lives_of((2, (come(5, "a"), go(5, "a")))), (("a", 0, 1, 0, 1, 0),))

    def test_a_name_that_comes_again(self):
        self.assertEqual(lives_of(AGAIN), (
            ("b", 0, 2, 0, 1, 7), ("a", 1, 5, 2, 1, 5), ("c", 3, 6, 0, 2, 0),
            ("b", 4, 9, 3, 2, 8), ("c", 7, 8, 1, 0, 1),
        ))

    def test_sixty_deeds(self):
        history = (2, tuple(come(k, "a", 0, 1, k) if k % 2 == 0 else go(k, "a") for k in range(60)))
        self.assertEqual(lives_of(history), tuple(("a", k, k + 1, 0, 1, k) for k in range(0, 60, 2)))

    def test_many_histories(self):
        for history in some_histories():
            lives = stays_as_it_was(self, lives_of, history)
            self.assertEqual(lives, lives_of(history))
            froms = [life[1] for life in lives]
            self.assertEqual(froms, [k for k, deed in enumerate(history[1]) if deed[0] == "come"])
            for n in range(len(history[1]) + 1):
                there = sorted((life[0],) + life[3:] for life in lives if life[1] < n <= life[2])
                self.assertEqual(tuple(there), stand_reckoned(history, n))

    def test_kinds_of_what_is_told(self):
        lives = lives_of(AGAIN)
        self.assertIs(type(lives), tuple)
        for life in lives:
            self.assertIs(type(life), tuple)
            self.assertIs(type(life[0]), str)
            self.assertTrue(all(is_number(part) for part in life[1:]))


class Spans(unittest.TestCase):
    def test_a_name_that_never_comes(self):
        self.assertEqual(there_spans((1, ()), "a"), ())
        for name in ("d", "z", "abcdefgh", "bb"):
            self.assertEqual(there_spans(AGAIN, name), ())

    def test_a_tie_that_stays_has_no_end(self):
        self.assertEqual(there_spans((2, (come(0, "a"),)), "a"), ((0, None),))
        self.assertEqual(there_spans((2, (come(MOST, "a"),)), "a"), ((MOST, None),))

    def test_a_tie_that_goes(self):
        self.assertEqual(there_spans((2, (come(0, "a"), go(1, "a"))), "a"), ((0, 1),))
        self.assertEqual(there_spans((2, (come(3, "a"), go(MOST, "a"))), "a"), ((3, MOST),))

    def test_come_and_gone_at_one_moment(self):
        self.assertEqual(there_spans((2, (come(3, "a"), go(3, "a"))), "a"), ())
        history = (2, (come(3, "a"), go(3, "a"), come(3, "a"), go(3, "a"), come(4, "a"), go(5, "a")))
        self.assertEqual(there_spans(history, "a"), ((4, 5),))

    def test_gone_and_come_again_at_one_moment_is_one_span(self):
        history = (3, (come(3, "a"), go(7, "a"), come(7, "a", 1, 2, 9), go(9, "a")))
        self.assertEqual(there_spans(history, "a"), ((3, 9),))
        history = (3, (come(3, "a"), go(7, "a"), come(7, "a"), go(7, "a"), come(7, "a")))
        self.assertEqual(there_spans(history, "a"), ((3, None),))

    def test_gone_and_come_again_later(self):
        history = (3, (come(3, "a"), go(7, "a"), come(8, "a"), go(9, "a"), come(20, "a")))
        self.assertEqual(there_spans(history, "a"), ((3, 7), (8, 9), (20, None)))

    def test_each_name_for_itself(self):
        self.assertEqual(there_spans(AGAIN, "a"), ((3, 9),))
        self.assertEqual(there_spans(AGAIN, "b"), ((2, 4), (9, None)))
        self.assertEqual(there_spans(AGAIN, "c"), ((4, 11),))

    def test_many_histories(self):
        for history in some_histories():
            moments = {0, MOST} | {deed[1] + step for deed in history[1] for step in (-1, 0, 1)}
            moments.discard(-1)
            for name in LETTERS[:8]:
                spans = stays_as_it_was(self, there_spans, history, name)
                self.assertIs(is_spans(spans), True)
                self.assertEqual(spans, there_spans(history, name))
                for moment in moments:
                    names = [tie[0] for tie in stand_at(history, moment)]
                    self.assertIs(has_moment(spans, moment), name in names)


if __name__ == "__main__":
    unittest.main()
