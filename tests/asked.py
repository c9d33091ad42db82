"""[12], [21], [4]: what is tested of each way that answers asks. A test takes Asked in and names its way."""

import itertools
import random

from samples import come, go, is_number, reach_reckoned, some_histories, stand_reckoned, stays_as_it_was

# A chain of 0, 1, 2 becomes a ring of three, a second tie lies beside the first, then the ring is gone.
HISTORY = (5, (
    come(1, "a", 0, 1, 4), come(2, "b", 2, 1, 4), come(3, "c", 0, 2, 4), come(4, "d", 1, 0, 4),
    go(5, "c"), come(6, "e", 3, 4, 4), go(7, "b"),
))
# A tie comes again with other places, and again with its first ones turned round.
AGAIN = (4, (
    come(0, "a", 0, 1), go(0, "a"), come(1, "a", 2, 3), come(1, "b", 1, 2), go(2, "a"), come(2, "a", 1, 0), go(3, "b"),
))
# Two and three ties of like places; as long as one is there, the places are joined.
LIKE = (3, (
    come(0, "a", 0, 1), come(0, "b", 1, 0), go(1, "a"), come(1, "c", 0, 1), go(2, "b"), go(3, "c"), come(4, "b", 0, 1),
))
# Each tie goes by the deed behind the one by which it comes.
BRIEF = (6, tuple(
    deed for k in range(30) for deed in (come(k, "a", k % 6, (k + 1) % 6), go(k, "a"))
))


def ring(many, length):
    """A history of a ring that grows tie by tie, and then loses its first tie."""
    names = "abcdefghijklmnopqrstuvwxyz"
    deeds = [come(0, names[k], k, (k + 1) % length) for k in range(length)]
    return (many, tuple(deeds) + (go(1, "a"),))


def full_history():
    """Sixty comings between 24 places; the last one alone lies between two places of one side."""
    pairs = [(one, other) for one in range(6) for other in range(12, 22)]
    deeds = [come(1, chr(97 + one) + chr(97 + other), one, other) for one, other in pairs]
    return (24, tuple(deeds[:-1]) + (come(1, "z", 0, 1),))


def even_reckoned(many, stand):
    """Whether any numbers 0 and 1 do, by trying all."""
    return any(
        all(numbers[tie[1]] != numbers[tie[2]] for tie in stand)
        for numbers in itertools.product((0, 1), repeat=many)
    )


def even_by_doubling(many, stand):
    """The same for many places: no place is joined with itself by an odd number of ties."""
    ties = [("a", 2 * tie[1] + turn, 2 * tie[2] + 1 - turn, 0) for tie in stand for turn in (0, 1)]
    reach = reach_reckoned(2 * many, ties)
    return not any(reach[2 * place][2 * place + 1] for place in range(many))


def answer_reckoned(history, ask):
    many = history[0]
    stand = stand_reckoned(history, ask[1])
    if ask[0] == "even":
        return even_reckoned(many, stand) if many < 6 else even_by_doubling(many, stand)
    reach = reach_reckoned(many, stand)
    if ask[0] == "joined":
        return reach[ask[2]][ask[3]]
    if ask[0] == "size":
        return sum(reach[ask[2]])
    return len({tuple(row) for row in reach})


def some_asks(history, seed, how_many=60):
    dice = random.Random(seed)
    many, deeds = history
    asks = []
    for number in range(how_many):
        n = dice.randint(0, len(deeds))
        one, other = dice.randrange(many), dice.randrange(many)
        asks.append(dice.choice((("joined", n, one, other), ("parts", n), ("size", n, one), ("even", n))))
    return tuple(asks)


def all_asks(history):
    """Every ask that there is of a small history."""
    many, deeds = history
    asks = []
    for n in range(len(deeds) + 1):
        asks += [("parts", n), ("even", n)]
        asks += [("size", n, place) for place in range(many)]
        asks += [("joined", n, one, other) for one in range(many) for other in range(many)]
    return tuple(asks)


class Asked:
    """The tests; a class that takes them in has way(history, asks)."""

    def told(self, asks, answers, history=HISTORY):
        told = stays_as_it_was(self, self.way, history, asks)
        self.assertEqual(repr(told), repr(answers))

    def test_joined(self):
        self.told(tuple(("joined", n, 0, 2) for n in range(8)), (False, False, True, True, True, True, True, False))
        self.told(tuple(("joined", n, 2, 0) for n in range(8)), (False, False, True, True, True, True, True, False))
        self.told(tuple(("joined", n, 4, 3) for n in range(8)), (False,) * 6 + (True, True))
        self.told(tuple(("joined", n, 0, 4) for n in range(8)), (False,) * 8)

    def test_one_place_twice(self):
        self.told(tuple(("joined", n, place, place) for n in range(8) for place in range(5)), (True,) * 40)

    def test_parts(self):
        self.told(tuple(("parts", n) for n in range(8)), (5, 4, 3, 3, 3, 3, 2, 3))

    def test_size(self):
        self.told(tuple(("size", n, 0) for n in range(8)), (1, 2, 3, 3, 3, 3, 3, 2))
        self.told(tuple(("size", n, 2) for n in range(8)), (1, 1, 3, 3, 3, 3, 3, 1))
        self.told(tuple(("size", n, 4) for n in range(8)), (1,) * 6 + (2, 2))

    def test_even(self):
        self.told(tuple(("even", n) for n in range(8)), (True, True, True, False, False, True, True, True))

    def test_even_of_a_ring_in_a_later_part(self):
        deeds = (come(1, "a", 0, 1), come(1, "b", 3, 4), come(1, "c", 4, 5), come(1, "d", 5, 3), go(2, "a"))
        self.told(tuple(("even", n) for n in range(6)), (True,) * 4 + (False,) * 2, (6, deeds))

    def test_rings_of_each_length(self):
        for length in range(3, 25):
            asks = (("even", length), ("even", length - 1), ("even", length + 1), ("parts", length), ("parts", length + 1))
            parts = 25 - length
            self.told(asks, (length % 2 == 0, True, True, parts, parts), ring(24, length))

    def test_a_tie_that_comes_again(self):
        self.told(tuple(("joined", n, 0, 1) for n in range(8)), (False, True, False, False, False, False, True, True), AGAIN)
        self.told(tuple(("joined", n, 1, 3) for n in range(8)), (False,) * 4 + (True,) + (False,) * 3, AGAIN)
        self.told(tuple(("size", n, 2) for n in range(8)), (1, 1, 1, 2, 3, 2, 3, 1), AGAIN)

    def test_ties_of_like_places(self):
        self.told(tuple(("joined", n, 1, 0) for n in range(8)), (False, True, True, True, True, True, False, True), LIKE)
        self.told(tuple(("parts", n) for n in range(8)), (3, 2, 2, 2, 2, 2, 3, 2), LIKE)
        self.told(tuple(("even", n) for n in range(8)), (True,) * 8, LIKE)

    def test_ties_that_come_and_go_by_neighbouring_deeds(self):
        asks = tuple(("joined", n, (n // 2) % 6, (n // 2 + 1) % 6) for n in range(60))
        self.told(asks, (False, True) * 30, BRIEF)
        self.told(tuple(("parts", n) for n in range(61)), (6, 5) * 30 + (6,), BRIEF)

    def test_no_asks(self):
        self.told((), ())
        self.told((), (), (1, ()))
        self.told((), (), full_history())

    def test_no_deeds(self):
        for many in (1, 2, 24):
            asks = (("joined", 0, 0, 0), ("joined", 0, 0, many - 1), ("parts", 0), ("size", 0, many - 1), ("even", 0))
            self.told(asks, (True, many == 1, many, 1, True), (many, ()))

    def test_any_order_and_twice(self):
        asks = (("parts", 7), ("joined", 2, 0, 2), ("parts", 7), ("even", 3), ("size", 0, 1), ("joined", 2, 0, 2))
        self.told(asks, (3, True, 3, False, 1, True))
        self.told(asks[::-1], (True, 1, False, 3, True, 3))

    def test_kinds_of_what_is_told(self):
        asks = (("joined", 2, 0, 2), ("joined", 0, 0, 2), ("even", 0), ("even", 3), ("parts", 6), ("size", 0, 0))
        told = self.way(HISTORY, asks)
        self.assertIs(type(told), tuple)
        self.assertTrue(all(type(answer) is bool for answer in told[:4]))
        self.assertTrue(all(is_number(answer) for answer in told[4:]))

    def test_all_asks_of_small_histories(self):
        for history in (HISTORY, AGAIN, LIKE, ring(5, 5), ring(4, 4), BRIEF):
            asks = all_asks(history)
            self.told(asks, tuple(answer_reckoned(history, ask) for ask in asks), history)

    def test_sixty_asks_of_many_histories(self):
        for seed, history in enumerate(some_histories(24)):
            # The reckoning of many places is slow, so fewer asks are made of them.
            asks = some_asks(history, seed, 60 if history[0] < 8 else 12)
            self.told(asks, tuple(answer_reckoned(history, ask) for ask in asks), history)
            self.assertEqual(self.way(history, asks), self.way(history, asks))

    def test_sixty_asks_of_sixty_ties(self):
        history = full_history()
        self.assertEqual(len(history[1]), 60)
        self.told(tuple(("even", n) for n in range(1, 61)), (True,) * 59 + (False,), history)
        self.told(tuple(("parts", n) for n in range(11)), tuple(24 - n for n in range(11)), history)
        asks = (("size", 60, 0), ("size", 0, 0), ("size", 59, 11), ("joined", 60, 0, 21), ("joined", 60, 0, 23))
        self.told(asks, (16, 1, 1, True, False), history)

    def test_a_beginning_answers_as_the_whole(self):
        for seed in (3, 8, 14, 19):
            many, deeds = some_histories(24)[seed]
            for end in range(0, len(deeds) + 1, 3):
                beginning = (many, deeds[:end])
                asks = some_asks(beginning, seed, 12)
                self.assertEqual(self.way(beginning, asks), self.way((many, deeds), asks))
