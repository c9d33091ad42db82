"""[12], [4]: asks answered by halves of the numbers of deeds, the same as by a plain walk."""

import unittest
from unittest import mock

from asked import AGAIN, BRIEF, HISTORY, LIKE, Asked, full_history, some_asks
from joinedever.answering import answers_plainly
from joinedever.byhalves import answers_by_halves
from joinedever.halves import pieces_of
from joinedever.lives import lives_of
from joinedever.takes import Takes
from samples import some_histories


class ByHalves(Asked, unittest.TestCase):
    def way(self, history, asks):
        return answers_by_halves(history, asks)

    def test_the_same_as_plainly(self):
        histories = some_histories(90) + [HISTORY, AGAIN, LIKE, BRIEF, full_history()]
        for seed, history in enumerate(histories):
            asks = some_asks(history, seed)
            self.assertEqual(repr(answers_by_halves(history, asks)), repr(answers_plainly(history, asks)))


class Watched(Takes):
    """A Takes that tells of all joins, and how many were done at most and at last."""

    made = []

    def __init__(self, many):
        super().__init__(many)
        self.rows = []
        self.most = 0
        Watched.made.append(self)

    def join(self, one, other):
        self.rows.append((one, other))
        told = super().join(one, other)
        self.most = max(self.most, self.joins())
        return told


class Halves(unittest.TestCase):
    def watched(self, history, asks):
        Watched.made = []
        with mock.patch("joinedever.byhalves.Takes", Watched):
            answers_by_halves(history, asks)
        self.assertEqual(len(Watched.made), 1)
        return Watched.made[0]

    def test_each_life_is_joined_once_for_each_of_its_pieces(self):
        for history in [HISTORY, AGAIN, LIKE, BRIEF, full_history()] + some_histories(12):
            size = len(history[1]) + 1
            # An ask of each number, so that each half is gone through.
            asks = tuple(("parts", n) for n in range(size))
            takes = self.watched(history, asks)
            wanted = [
                (one, other) for name, start, stop, one, other, weight in lives_of(history)
                for piece in pieces_of(size, start + 1, stop + 1)
            ]
            self.assertEqual(sorted(takes.rows), sorted(wanted))
            self.assertLessEqual(takes.most, 60)

    def test_all_joins_are_taken_back(self):
        for history in (HISTORY, LIKE, BRIEF, full_history()):
            takes = self.watched(history, (("parts", 0), ("even", len(history[1]))))
            self.assertEqual((takes.joins(), takes.shown()), (0, Takes(history[0]).shown()))


if __name__ == "__main__":
    unittest.main()
