"""[21], [4]: two sides of all parts, or a ring of odd length, told and read."""

import itertools
import unittest

from asked import even_by_doubling, even_reckoned
from joinedever.sides import sides_hold, sides_of
from layered import parts_reckoned
from light import some_stand, some_stands, tie
from samples import LETTERS, ODD_THINGS, deep_thing, is_number, stays_as_it_was, wide_thing

ANY_THINGS = ODD_THINGS + (
    0, 1, 2, -1, 10 ** 39, -10 ** 39, deep_thing(20), wide_thing(5000), "a", "sides", "ring", ("a",), (0,), (0, 1),
    ("sides",), ("ring", ()), ["sides", (0, 1)], {"sides": (0, 1)},
)
# A square 0, 1, 2, 3 and a tie of 4 and 5; 6 is alone.
EVEN = (tie("a", 0, 1), tie("b", 1, 2), tie("c", 2, 3), tie("d", 3, 0), tie("e", 5, 4))
NUMBERS = (0, 1, 0, 1, 0, 1, 0)
# A ring of 1, 2, 3 that hangs on 0, a tie beside "b", and a part of 4 and 5.
ODD = (tie("a", 0, 1), tie("b", 1, 2), tie("c", 2, 3), tie("d", 3, 1), tie("e", 5, 4), tie("f", 2, 1))


def ring_of(length, first=0, letters=LETTERS):
    """A ring of ties over so many places from first on."""
    return tuple(tie(letters[k], first + k, first + (k + 1) % length) for k in range(length))


def goes_round(stand, names):
    """Whether names lead from a place back to it; by trying both places of the first one."""
    ties = {one[0]: one[1:3] for one in stand}
    for start in ties[names[0]]:
        here = start
        for name in names:
            here = sum(ties[name]) - here if here in ties[name] else None
            if here is None:
                break
        if here == start:
            return True
    return False


class Told(unittest.TestCase):
    def sides(self, many, stand, numbers):
        told = stays_as_it_was(self, sides_of, many, stand)
        self.assertEqual(repr(told), repr(("sides", numbers)))

    def ring(self, many, stand):
        """Tells the names of the ring, which is looked at by the words of the document."""
        told = stays_as_it_was(self, sides_of, many, stand)
        self.assertIs(type(told), tuple)
        self.assertEqual(len(told), 2)
        self.assertEqual(told[0], "ring")
        names = told[1]
        self.assertIs(type(names), tuple)
        self.assertTrue(set(names) <= {one[0] for one in stand})
        self.assertEqual(len(names) % 2, 1)
        self.assertLessEqual(len(names), 61)
        self.assertTrue(goes_round(stand, names))
        self.assertEqual(told, sides_of(many, stand))
        self.assertIs(sides_hold(many, stand, told), True)
        return names

    def test_of_no_ties_and_of_one_place(self):
        for many in (1, 2, 24):
            self.sides(many, (), (0,) * many)

    def test_one_tie(self):
        self.sides(2, (tie("a", 0, 1),), (0, 1))
        self.sides(2, (tie("a", 1, 0),), (0, 1))
        self.sides(4, (tie("a", 3, 1),), (0, 0, 0, 1))

    def test_several_parts(self):
        self.sides(7, EVEN, NUMBERS)
        self.sides(6, (tie("a", 5, 1), tie("b", 2, 5), tie("c", 4, 3), tie("d", 0, 3)), (0, 0, 0, 1, 0, 1))
        # The least place of a part comes late in its ties.
        self.sides(4, (tie("a", 3, 2), tie("b", 2, 1)), (0, 0, 1, 0))
        self.sides(4, (tie("a", 3, 2), tie("b", 2, 0), tie("c", 1, 3)), (0, 1, 1, 0))

    def test_rings_of_even_length(self):
        for length in range(4, 25, 2):
            self.sides(24, ring_of(length), (0, 1) * (length // 2) + (0,) * (24 - length))
        self.sides(5, ring_of(4, 1), (0, 0, 1, 0, 1))

    def test_two_and_more_ties_of_like_places(self):
        self.sides(2, (tie("a", 0, 1), tie("b", 1, 0)), (0, 1))
        self.sides(3, (tie("a", 2, 1), tie("b", 1, 2), tie("c", 2, 1)), (0, 0, 1))

    def test_a_chain_of_all_places(self):
        chain = tuple(tie(LETTERS[k], k, k + 1) for k in range(23))
        self.sides(24, chain, (0, 1) * 12)

    def test_rings_of_odd_length(self):
        for length in range(3, 24, 2):
            stand = ring_of(length)
            for many in sorted({length, 24}):
                self.assertEqual(sorted(self.ring(many, stand)), [one[0] for one in stand])

    def test_an_odd_ring_in_a_part_without_the_first_place(self):
        for first in (1, 2, 5):
            stand = ring_of(3, first)
            self.assertEqual(sorted(self.ring(first + 3, stand)), ["a", "b", "c"])
            # With an even ring ahead of it, and with one that hangs on it.
            self.ring(first + 3, stand + (tie("z", first, 0),))
        stand = ring_of(4) + ring_of(5, 4, "vwxyz")
        self.assertEqual(sorted(self.ring(9, stand)), ["v", "w", "x", "y", "z"])

    def test_an_odd_ring_that_hangs_on_a_chain(self):
        names = self.ring(6, ODD)
        self.assertEqual(len(names), 3)
        self.assertTrue({"c", "d"} < set(names))
        # A chain of 21 ties ahead of it.
        chain = tuple(tie(LETTERS[k], k, k + 1) for k in range(21))
        self.assertEqual(sorted(self.ring(24, chain + (tie("x", 21, 22), tie("y", 22, 23), tie("z", 23, 21)))), ["x", "y", "z"])

    def test_two_ties_of_like_places_in_an_odd_ring(self):
        stand = (tie("a", 0, 1), tie("b", 1, 0), tie("c", 1, 2), tie("d", 2, 0), tie("e", 0, 2))
        names = self.ring(3, stand)
        self.assertEqual(len(names), 3)

    def test_a_ring_that_is_told_has_no_tie_twice(self):
        for many, stand in some_stands(120):
            told = sides_of(many, stand)
            if told[0] == "ring":
                self.assertEqual(len(set(told[1])), len(told[1]))

    def test_over_many(self):
        stands = some_stands(120) + [some_stand(seed, many=3 + seed % 20, ties=seed % 13) for seed in range(120)]
        seen = {"sides": 0, "ring": 0}
        for many, stand in stands:
            is_even = even_reckoned(many, stand) if many < 7 else even_by_doubling(many, stand)
            told = stays_as_it_was(self, sides_of, many, stand)
            self.assertEqual(told[0], "sides" if is_even else "ring")
            seen[told[0]] += 1
            if not is_even:
                self.ring(many, stand)
                continue
            numbers = told[1]
            self.assertEqual((type(told), len(told), type(numbers), len(numbers)), (tuple, 2, tuple, many))
            self.assertTrue(all(is_number(number) and number in (0, 1) for number in numbers))
            self.assertTrue(all(numbers[one[1]] != numbers[one[2]] for one in stand))
            self.assertTrue(all(numbers[min(part)] == 0 for part in parts_reckoned(many, stand)))
            self.assertEqual(told, sides_of(many, stand))
            self.assertIs(sides_hold(many, stand, told), True)
        self.assertGreater(min(seen.values()), 30)


class Checked(unittest.TestCase):
    def holds(self, thing, truth, stand, many):
        with self.subTest(thing=repr(thing)[:200]):
            self.assertIs(stays_as_it_was(self, sides_hold, many, stand, thing), truth)

    def even(self, thing, truth):
        self.holds(thing, truth, EVEN, 7)

    def odd(self, thing, truth):
        self.holds(thing, truth, ODD, 6)


class SidesRead(Checked):
    def test_all_numbers(self):
        # The first four in turn, the next two unlike, the last one free: eight of all that there are.
        right = 0
        for numbers in itertools.product((0, 1), repeat=7):
            truth = numbers[:4] in ((0, 1, 0, 1), (1, 0, 1, 0)) and numbers[4] != numbers[5]
            self.even(("sides", numbers), truth)
            right += truth
        self.assertEqual(right, 8)

    def test_numbers_that_begin_with_1(self):
        self.even(("sides", NUMBERS), True)
        self.even(("sides", (1, 0, 1, 0, 0, 1, 0)), True)
        self.even(("sides", (0, 1, 0, 1, 0, 1, 1)), True)
        self.even(("sides", (1, 0, 1, 0, 1, 0, 1)), True)
        self.holds(("sides", (1,)), True, (), 1)
        self.holds(("sides", (1,) * 24), True, (), 24)

    def test_too_few_and_too_many(self):
        self.even(("sides", NUMBERS[:6]), False)
        self.even(("sides", NUMBERS + (0,)), False)
        self.even(("sides", NUMBERS + (1,)), False)
        self.even(("sides", ()), False)
        self.holds(("sides", ()), False, (), 1)
        self.holds(("sides", (0, 0)), False, (), 1)

    def test_other_numbers(self):
        for number in (2, -1, 10 ** 39, -2):
            for place in range(7):
                self.even(("sides", NUMBERS[:place] + (number,) + NUMBERS[place + 1:]), False)
            self.even(("sides", tuple(number if one else 0 for one in NUMBERS)), False)
        self.even(("sides", (1, 2, 1, 2, 1, 2, 1)), False)

    def test_a_truth_for_a_number(self):
        for place in range(7):
            self.even(("sides", NUMBERS[:place] + (bool(NUMBERS[place]),) + NUMBERS[place + 1:]), False)
        self.even(("sides", tuple(bool(number) for number in NUMBERS)), False)

    def test_a_tie_between_like_numbers(self):
        for numbers in ((0, 1, 0, 1, 0, 0, 0), (0, 1, 1, 1, 0, 1, 0), (1, 1, 0, 1, 0, 1, 0), (0,) * 7, (1,) * 7):
            self.even(("sides", numbers), False)
        for numbers in itertools.product((0, 1), repeat=6):
            self.odd(("sides", numbers), False)

    def test_a_list_for_numbers(self):
        self.even(("sides", list(NUMBERS)), False)
        self.even(("sides", dict(enumerate(NUMBERS))), False)
        self.even(("sides", "0101010"), False)
        self.even(["sides", NUMBERS], False)


class RingsRead(Checked):
    def test_begun_anywhere_gone_either_way(self):
        for length in (3, 5, 23):
            stand = ring_of(length)
            names = tuple(one[0] for one in stand)
            for start in range(length):
                turned = names[start:] + names[:start]
                self.holds(("ring", turned), True, stand, 24)
                self.holds(("ring", turned[::-1]), True, stand, 24)

    def test_by_either_of_two_ties_of_like_places(self):
        self.odd(("ring", ("b", "c", "d")), True)
        self.odd(("ring", ("f", "c", "d")), True)
        self.odd(("ring", ("b", "f", "b", "c", "d")), True)

    def test_with_a_tie_more_than_once(self):
        self.odd(("ring", ("b", "b", "b", "c", "d")), True)
        self.odd(("ring", ("a", "b", "c", "d", "a")), True)
        self.odd(("ring", ("b", "c", "d") * 3), True)
        self.odd(("ring", ("c", "c", "b", "d", "c")), True)

    def test_of_sixty_one_names_and_more(self):
        for twice in (("b", "b"), ("a", "a"), ("d", "d"), ("f", "b")):
            self.assertEqual(len(twice * 29 + ("b", "c", "d")), 61)
            self.odd(("ring", twice * 28 + ("b", "c", "d")), True)
            self.odd(("ring", twice * 29 + ("b", "c", "d")), True)
            self.odd(("ring", twice * 30 + ("b", "c", "d")), False)
            self.odd(("ring", twice * 2000 + ("b", "c", "d")), False)
        self.odd(("ring", ("b", "c", "d") * 19), True)
        self.odd(("ring", ("b", "c", "d") * 21), False)

    def test_of_an_even_number_and_of_none(self):
        self.odd(("ring", ()), False)
        self.odd(("ring", ("b", "b")), False)
        self.odd(("ring", ("b", "f")), False)
        self.odd(("ring", ("b", "c", "d") * 2), False)
        self.odd(("ring", ("e", "e")), False)
        self.even(("ring", ("a", "b", "c", "d")), False)

    def test_that_does_not_lead_on(self):
        self.odd(("ring", ("b", "d", "e")), False)
        self.odd(("ring", ("b", "e", "d")), False)
        self.odd(("ring", ("e", "c", "d")), False)
        self.odd(("ring", ("a", "c", "d")), False)
        self.odd(("ring", ("b", "c", "d", "e", "e")), False)

    def test_that_ends_elsewhere(self):
        for names in (("a",), ("b",), ("a", "b", "c"), ("a", "a", "a"), ("b", "c", "d", "a", "a", "a", "b"), ("b", "b", "d")):
            self.odd(("ring", names), False)
        self.odd(("ring", ("b", "b", "b")), False)
        self.odd(("ring", ("e", "e", "e")), False)

    def test_a_name_of_no_tie(self):
        for name in ("z", "", "B", "bb"):
            self.odd(("ring", (name,)), False)
            for at in range(3):
                names = ("b", "c", "d")
                self.odd(("ring", names[:at] + (name,) + names[at + 1:]), False)

    def test_a_list_for_names(self):
        self.odd(("ring", ["b", "c", "d"]), False)
        self.odd(("ring", "bcd"), False)
        self.odd(("ring", {"b": 1, "c": 2, "d": 3}), False)
        self.odd(["ring", ("b", "c", "d")], False)

    def test_all_names_of_at_most_five(self):
        for length in range(6):
            for names in itertools.product("abcdef", repeat=length):
                truth = length % 2 == 1 and goes_round(ODD, names)
                self.assertIs(sides_hold(6, ODD, ("ring", names)), truth)

    def test_none_is_let_by_where_there_are_two_sides(self):
        for length in (1, 3, 5):
            for names in itertools.product("abcde", repeat=length):
                self.assertIs(sides_hold(7, EVEN, ("ring", names)), False)


class OtherThings(Checked):
    def test_another_word_and_the_words_exchanged(self):
        for word in ("side", "Sides", "sides ", "even", "", "rings", "odd", "RING", None, 0, ("sides",), ["ring"]):
            self.even((word, NUMBERS), False)
            self.odd((word, ("b", "c", "d")), False)
        self.even(("ring", NUMBERS), False)
        self.odd(("sides", ("b", "c", "d")), False)
        self.even((NUMBERS, "sides"), False)

    def test_a_tuple_of_one_or_three(self):
        self.even(("sides",), False)
        self.even(("sides", NUMBERS, NUMBERS), False)
        self.even(("sides", NUMBERS, None), False)
        self.even((), False)
        self.odd(("ring",), False)
        self.odd(("ring", ("b", "c", "d"), ()), False)
        self.even(("sides",) + NUMBERS, False)

    def test_any_things(self):
        for thing in ANY_THINGS:
            self.even(thing, False)
            self.odd(thing, False)
            self.even((thing, NUMBERS), thing == "sides")
            self.odd((thing, ("b", "c", "d")), thing == "ring")
            for word in ("sides", "ring"):
                self.even((word, thing), False)
                self.odd((word, thing), False)
                self.even((word, (thing,)), False)
                self.odd((word, (thing,)), False)
            self.even((thing, thing), False)
            for place in range(7):
                numbers = NUMBERS[:place] + (thing,) + NUMBERS[place + 1:]
                truth = is_number(thing) and (thing == NUMBERS[place] or (place == 6 and thing == 1))
                self.even(("sides", numbers), truth)
            for at in range(3):
                names = ("b", "c", "d")
                self.odd(("ring", names[:at] + (thing,) + names[at + 1:]), False)

    def test_told_again_alike(self):
        for thing in (("sides", NUMBERS), ("ring", ("a", "b")), None):
            self.assertIs(sides_hold(7, EVEN, thing), sides_hold(7, EVEN, thing))


if __name__ == "__main__":
    unittest.main()
