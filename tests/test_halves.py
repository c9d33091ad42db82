"""[11]: halves, and the pieces of a stretch."""

import unittest

from joinedever.halves import pieces_of
from samples import is_number


def halves_of(size):
    """All halves, row by row."""
    halves = []
    row = [(0, size)]
    while row:
        halves += row
        row = [half for low, high in row if high - low > 1
               for half in ((low, (low + high) // 2), ((low + high) // 2, high))]
    return halves


def pieces_reckoned(halves, low, high):
    """As the document tells them: the halves in the stretch that lie in no other half there."""
    within = [half for half in halves if low <= half[0] and half[1] <= high]
    return tuple(sorted(half for half in within if not any(
        other != half and other[0] <= half[0] and half[1] <= other[1] for other in within
    )))


class Pieces(unittest.TestCase):
    def test_told_ones(self):
        for size, low, high, pieces in (
            (1, 0, 1, ((0, 1),)),
            (2, 0, 1, ((0, 1),)),
            (2, 1, 2, ((1, 2),)),
            (2, 0, 2, ((0, 2),)),
            (3, 0, 2, ((0, 1), (1, 2))),
            (3, 1, 3, ((1, 3),)),
            (5, 1, 5, ((1, 2), (2, 5))),
            (8, 1, 7, ((1, 2), (2, 4), (4, 6), (6, 7))),
            (8, 0, 7, ((0, 4), (4, 6), (6, 7))),
            (61, 0, 30, ((0, 30),)),
            (61, 30, 61, ((30, 61),)),
            (61, 29, 31, ((29, 30), (30, 31))),
        ):
            self.assertEqual(pieces_of(size, low, high), pieces)

    def test_stretches_of_none(self):
        for size in range(1, 62):
            for low in range(size + 1):
                self.assertEqual(pieces_of(size, low, low), ())

    def test_stretches_of_one_number_and_of_all(self):
        for size in range(1, 62):
            self.assertEqual(pieces_of(size, 0, size), ((0, size),))
            for low in range(size):
                self.assertEqual(pieces_of(size, low, low + 1), ((low, low + 1),))

    def test_all_stretches_of_small_sizes(self):
        for size in list(range(1, 18)) + [31, 32, 33]:
            halves = halves_of(size)
            for low in range(size + 1):
                for high in range(low, size + 1):
                    told = pieces_of(size, low, high)
                    self.assertEqual(told, pieces_reckoned(halves, low, high))
                    self.assertEqual(told, pieces_of(size, low, high))

    def test_stretches_of_great_sizes(self):
        for size in (59, 60, 61):
            halves = halves_of(size)
            for low in range(size + 1):
                for high in {low, min(low + 1, size), (low + size) // 2, size - 1, size}:
                    if low <= high:
                        self.assertEqual(pieces_of(size, low, high), pieces_reckoned(halves, low, high))
            for high in range(size + 1):
                self.assertEqual(pieces_of(size, 0, high), pieces_reckoned(halves, 0, high))

    def test_each_number_once_rising(self):
        for size in (1, 2, 3, 4, 7, 8, 9, 15, 16, 17, 31, 32, 33, 60, 61):
            halves = set(halves_of(size))
            for low in range(size + 1):
                for high in range(low, size + 1):
                    pieces = pieces_of(size, low, high)
                    self.assertEqual([number for piece in pieces for number in range(*piece)], list(range(low, high)))
                    self.assertTrue(set(pieces) <= halves)
                    self.assertEqual(list(pieces), sorted(set(pieces)))

    def test_kinds_of_what_is_told(self):
        told = pieces_of(61, 3, 50)
        self.assertIs(type(told), tuple)
        for piece in told:
            self.assertIs(type(piece), tuple)
            self.assertEqual(len(piece), 2)
            self.assertTrue(all(is_number(number) for number in piece))


if __name__ == "__main__":
    unittest.main()
