"""[12]: asks answered by a plain walk; [21] of what "even" asks."""

import itertools
import random
import unittest

from joinedever.answering import answers_plainly
from samples import come, go, is_number, reach_reckoned, some_histories, stand_reckoned, stays_as_it_was

# A chain of 0, 1, 2 becomes a ring of three, a second tie lies beside the first, then the ring is gone.
HISTORY = (5, (
    come(1, "a", 0, 1, 4), come(2, "b", 2, 1, 4), come(3, "c", 0, 2, 4), come(4, "d", 1, 0, 4),
    go(5, "c"), come(6, "e", 3, 4, 4), go(7, "b"),
))


def even_reckoned(many, stand):
    """Whether any numbers 0 and 1 do, by trying all."""
    return any(
        all(numbers[tie[1]] != numbers[tie[2]] for tie in stand)
        for numbers in itertools.product((0, 1), repeat=many)
    )


def even_by_doubling(many, stand):
    """The same for many places: no place is joined with itself by an odd number of ties."""
    ties = [("a", 2 * tie[1] + turn, 2 * tie[2] + 1 - turn, 0) for tie in stand for turn in (0, 1)]
    reach = reach_reckoned(2 * many, ties)
    return not any(reach[2 * place][2 * place + 1] for place in range(many))


def answer_reckoned(history, ask):
    many = history[0]
    stand = stand_reckoned(history, ask[1])
    if ask[0] == "even":
        return even_reckoned(many, stand) if many < 6 else even_by_doubling(many, stand)
    reach = reach_reckoned(many, stand)
    if ask[0] == "joined":
        return reach[ask[2]][ask[3]]
    if ask[0] == "size":
        return sum(reach[ask[2]])
    return len({tuple(row) for row in reach})


def some_asks(history, seed, how_many=60):
    dice = random.Random(seed)
    many, deeds = history
    asks = []
    for number in range(how_many):
        n = dice.randint(0, len(deeds))
        one, other = dice.randrange(many), dice.randrange(many)
        asks.append(dice.choice((("joined", n, one, other), ("parts", n), ("size", n, one), ("even", n))))
    return tuple(asks)


class Answers(unittest.TestCase):
    def told(self, asks, answers):
        told = stays_as_it_was(self, answers_plainly, HISTORY, asks)
        self.assertEqual(repr(told), repr(answers))

    def test_joined(self):
        self.told(tuple(("joined", n, 0, 2) for n in range(8)), (False, False, True, True, True, True, True, False))
        self.told(tuple(("joined", n, 2, 0) for n in range(8)), (False, False, True, True, True, True, True, False))
        self.told(tuple(("joined", n, 4, 3) for n in range(8)), (False,) * 6 + (True, True))
        self.told(tuple(("joined", n, 0, 4) for n in range(8)), (False,) * 8)

    def test_one_place_twice(self):
        self.told(tuple(("joined", n, place, place) for n in range(8) for place in range(5)), (True,) * 40)

    def test_parts(self):
        self.told(tuple(("parts", n) for n in range(8)), (5, 4, 3, 3, 3, 3, 2, 3))

    def test_size(self):
        self.told(tuple(("size", n, 0) for n in range(8)), (1, 2, 3, 3, 3, 3, 3, 2))
        self.told(tuple(("size", n, 2) for n in range(8)), (1, 1, 3, 3, 3, 3, 3, 1))
        self.told(tuple(("size", n, 4) for n in range(8)), (1,) * 6 + (2, 2))

    def test_even(self):
        self.told(tuple(("even", n) for n in range(8)), (True, True, True, False, False, True, True, True))

    def test_even_of_a_ring_in_a_later_part(self):
        ring = (come(1, "a", 0, 1), come(1, "b", 3, 4), come(1, "c", 4, 5), come(1, "d", 5, 3), go(2, "a"))
        self.assertEqual(answers_plainly((6, ring), tuple(("even", n) for n in range(6))), (True,) * 4 + (False,) * 2)

    def test_even_of_long_rings(self):
        for length in range(3, 25):
            deeds = tuple(come(0, chr(97 + k), k, (k + 1) % length) for k in range(length))
            self.assertEqual(answers_plainly((24, deeds), (("even", length), ("even", length - 1))), (length % 2 == 0, True))

    def test_no_asks(self):
        self.told((), ())
        self.assertEqual(answers_plainly((1, ()), ()), ())

    def test_one_place_and_no_deeds(self):
        asks = (("joined", 0, 0, 0), ("parts", 0), ("size", 0, 0), ("even", 0))
        self.assertEqual(repr(answers_plainly((1, ()), asks)), repr((True, 1, 1, True)))

    def test_any_order_and_twice(self):
        asks = (("parts", 7), ("joined", 2, 0, 2), ("parts", 7), ("even", 3), ("size", 0, 1), ("joined", 2, 0, 2))
        self.told(asks, (3, True, 3, False, 1, True))
        self.told(asks[::-1], (True, 1, False, 3, True, 3))

    def test_kinds_of_what_is_told(self):
        asks = (("joined", 2, 0, 2), ("joined", 0, 0, 2), ("even", 0), ("even", 3), ("parts", 6), ("size", 0, 0))
        told = answers_plainly(HISTORY, asks)
        self.assertIs(type(told), tuple)
        self.assertTrue(all(type(answer) is bool for answer in told[:4]))
        self.assertTrue(all(is_number(answer) for answer in told[4:]))

    def test_sixty_asks_of_many_histories(self):
        for seed, history in enumerate(some_histories(24)):
            # The reckoning of many places is slow, so fewer asks are made of them.
            asks = some_asks(history, seed, 60 if history[0] < 8 else 12)
            told = stays_as_it_was(self, answers_plainly, history, asks)
            self.assertEqual(told, answers_plainly(history, asks))
            self.assertEqual(repr(told), repr(tuple(answer_reckoned(history, ask) for ask in asks)))

    def test_sixty_asks_of_sixty_ties(self):
        pairs = [(one, other) for one in range(6) for other in range(12, 22)]
        deeds = tuple(come(1, chr(97 + one) + chr(97 + other), one, other) for one, other in pairs)
        asks = tuple(("even", n) for n in range(1, 61))
        self.assertEqual(answers_plainly((24, deeds), asks), (True,) * 60)
        # The last tie lies between two places of one side.
        deeds = deeds[:-1] + (come(1, "z", 0, 1),)
        self.assertEqual(answers_plainly((24, deeds), asks), (True,) * 59 + (False,))


if __name__ == "__main__":
    unittest.main()
