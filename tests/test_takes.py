"""[10], [4]: joins, and joins taken back."""

import copy
import random
import unittest

from joinedever.errors import NoDeed, NoMark, TieError
from joinedever.takes import Takes
from samples import ODD_THINGS, deep_thing, is_number, reach_reckoned, wide_thing

FORTY = 10 ** 39
NO_NUMBERS = ODD_THINGS + ("0", "1", (0,), [0], {0: 0}, FORTY, -FORTY, -1, -2, deep_thing(20), wide_thing(6000))


def replayed(many, joins):
    """All behind a row of joins, done anew with a list of members for each top, and what each join tells."""
    members = {place: [place] for place in range(many)}
    side = dict.fromkeys(range(many), 0)
    odd = 0
    told = []
    for one, other in joins:
        mine = next(top for top in members if one in members[top])
        theirs = next(top for top in members if other in members[top])
        told.append(mine != theirs)
        if mine == theirs:
            odd += side[one] == side[other]
            continue
        kept, taken = sorted((mine, theirs), key=lambda top: (-len(members[top]), top))
        if side[one] == side[other]:
            for place in members[taken]:
                side[place] = 1 - side[place]
        members[kept] += members.pop(taken)
    tops = tuple(next(top for top in members if place in members[top]) for place in range(many))
    return (tops, tuple(side[place] for place in range(many)), odd), told


def some_joins(seed, many, how_many=60):
    dice = random.Random(seed)
    return [tuple(dice.sample(range(many), 2)) for number in range(how_many)]


class Shown(unittest.TestCase):
    def sees(self, takes, many, joins):
        """All that a Takes tells is what the joins, done anew, make."""
        tops, sides, odd = replayed(many, joins)[0]
        self.assertEqual(takes.shown(), (tops, sides, odd))
        self.assertEqual([takes.top(place) for place in range(many)], list(tops))
        self.assertEqual([takes.side(place) for place in range(many)], list(sides))
        self.assertEqual([takes.size(place) for place in range(many)], [tops.count(top) for top in tops])
        self.assertEqual((takes.parts(), takes.odd(), takes.joins()), (len(set(tops)), odd, len(joins)))

    def test_at_first(self):
        for many in range(1, 25):
            takes = Takes(many)
            self.assertEqual(takes.shown(), (tuple(range(many)), (0,) * many, 0))
            self.sees(takes, many, [])
            self.assertEqual((takes.parts(), takes.odd(), takes.joins()), (many, 0, 0))

    def test_of_like_many_the_lesser_top(self):
        for one, other in ((1, 2), (2, 1)):
            takes = Takes(3)
            self.assertIs(takes.join(one, other), True)
            self.assertEqual(takes.shown(), ((0, 1, 1), (0, 0, 1), 0))
            self.assertEqual([takes.size(place) for place in range(3)], [1, 2, 2])
            self.assertEqual((takes.parts(), takes.odd(), takes.joins()), (2, 0, 1))

    def test_of_unlike_many_the_greater_part(self):
        for one, other in ((0, 3), (3, 0)):
            takes = Takes(4)
            takes.join(2, 3)
            self.assertIs(takes.join(one, other), True)
            # 3 has side 1, so 0 keeps its side 0.
            self.assertEqual(takes.shown(), ((2, 1, 2, 2), (0, 0, 0, 1), 0))
        for one, other in ((0, 2), (2, 0)):
            takes = Takes(4)
            takes.join(3, 2)
            self.assertIs(takes.join(one, other), True)
            self.assertEqual(takes.shown(), ((2, 1, 2, 2), (1, 0, 0, 1), 0))

    def test_like_many_places_of_more_than_one(self):
        takes = Takes(4)
        takes.join(1, 3)
        takes.join(2, 0)
        self.assertEqual(takes.shown(), ((0, 1, 0, 1), (0, 0, 1, 1), 0))
        # 3 and 2 both have 1: those of the part of 1, whose top is greater, are exchanged.
        self.assertIs(takes.join(3, 2), True)
        self.assertEqual(takes.shown(), ((0, 0, 0, 0), (0, 1, 1, 0), 0))

    def test_unlike_sides_stay(self):
        takes = Takes(4)
        takes.join(0, 1)
        takes.join(2, 3)
        self.assertIs(takes.join(3, 0), True)
        self.assertEqual(takes.shown(), ((0, 0, 0, 0), (0, 1, 0, 1), 0))

    def test_of_one_part(self):
        takes = Takes(4)
        for k in range(3):
            takes.join(k, k + 1)
        ahead = takes.shown()
        self.assertEqual(ahead, ((0, 0, 0, 0), (0, 1, 0, 1), 0))
        self.assertIs(takes.join(3, 0), False)
        self.assertEqual((takes.shown(), takes.odd(), takes.joins()), (ahead, 0, 4))
        self.assertIs(takes.join(0, 2), False)
        self.assertEqual(takes.shown(), (ahead[0], ahead[1], 1))
        self.assertEqual((takes.parts(), takes.odd(), takes.joins()), (1, 1, 5))
        self.assertIs(takes.join(3, 1), False)
        self.assertEqual((takes.odd(), takes.joins()), (2, 6))

    def test_the_same_join_again(self):
        takes = Takes(2)
        self.assertEqual([takes.join(0, 1), takes.join(0, 1), takes.join(1, 0)], [True, False, False])
        self.assertEqual((takes.shown(), takes.joins()), (((0, 0), (0, 1), 0), 3))

    def test_an_odd_join_again_is_odd_again(self):
        takes = Takes(3)
        joins = [(0, 1), (1, 2), (2, 0), (2, 0), (0, 2)]
        self.assertEqual([takes.join(one, other) for one, other in joins], [True, True, False, False, False])
        self.assertEqual((takes.odd(), takes.joins()), (3, 5))

    def test_sixty_joins(self):
        for seed in range(20):
            many = (2, 3, 5, 8, 24)[seed % 5]
            joins = some_joins(seed, many)
            told = replayed(many, joins)[1]
            takes = Takes(many)
            for done, (one, other) in enumerate(joins, 1):
                self.assertIs(takes.join(one, other), told[done - 1])
                self.sees(takes, many, joins[:done])

    def test_what_tops_and_sides_mean(self):
        for seed in range(10):
            joins = some_joins(seed, 24, 30)
            takes = Takes(24)
            odd = [takes.join(one, other) is False and takes.side(one) == takes.side(other) for one, other in joins]
            reach = reach_reckoned(24, [("a", one, other, 0) for one, other in joins])
            for one in range(24):
                for other in range(24):
                    self.assertEqual(takes.top(one) == takes.top(other), reach[one][other])
            for (one, other), is_odd in zip(joins, odd):
                self.assertEqual(takes.side(one) == takes.side(other), is_odd)
            self.assertEqual(takes.odd(), sum(odd))

    def test_kinds_of_what_is_told(self):
        takes = Takes(5)
        for one, other in ((0, 1), (1, 2), (2, 0), (3, 2)):
            takes.join(one, other)
        numbers = [takes.top(2), takes.side(2), takes.size(2), takes.parts(), takes.odd(), takes.joins()]
        tops, sides, odd = takes.shown()
        self.assertIs(type(takes.shown()), tuple)
        self.assertIs(type(tops), tuple)
        self.assertIs(type(sides), tuple)
        self.assertTrue(all(is_number(number) for number in numbers + list(tops) + list(sides) + [odd]))

    def test_two_by_turns(self):
        one, other = Takes(6), Takes(6)
        ones, others = some_joins(1, 6, 12), some_joins(2, 6, 12)
        for done in range(12):
            one.join(*ones[done])
            other.join(*others[done])
            self.sees(one, 6, ones[:done + 1])
            self.sees(other, 6, others[:done + 1])
        one.back(3)
        self.sees(one, 6, ones[:3])
        self.sees(other, 6, others)


class Back(unittest.TestCase):
    def test_back_to_each_number(self):
        for seed in range(10):
            many = (2, 3, 5, 8, 24)[seed % 5]
            joins = some_joins(seed, many, (60, 7)[seed % 2])
            for mark in range(len(joins) + 1):
                takes = Takes(many)
                for one, other in joins:
                    takes.join(one, other)
                self.assertIsNone(takes.back(mark))
                Shown.sees(self, takes, many, joins[:mark])

    def test_back_step_by_step(self):
        joins = some_joins(3, 24)
        takes = Takes(24)
        for one, other in joins:
            takes.join(one, other)
        for mark in range(60, -1, -1):
            self.assertIsNone(takes.back(mark))
            self.assertEqual(takes.shown(), replayed(24, joins[:mark])[0])
            self.assertEqual(takes.joins(), mark)

    def test_to_the_number_that_are_done(self):
        takes = Takes(3)
        self.assertIsNone(takes.back(0))
        takes.join(0, 1)
        self.assertIsNone(takes.back(1))
        self.assertEqual((takes.shown(), takes.joins()), (((0, 0, 2), (0, 1, 0), 0), 1))

    def test_behind_joins_that_are_done_later(self):
        for seed in range(20):
            dice = random.Random(seed)
            many = dice.choice((2, 3, 6, 24))
            takes = Takes(many)
            done = []
            for turn in range(100):
                if dice.random() < 0.3 or len(done) == 60:
                    mark = dice.randint(0, len(done))
                    takes.back(mark)
                    done = done[:mark]
                else:
                    done.append(tuple(dice.sample(range(many), 2)))
                    self.assertIs(takes.join(*done[-1]), replayed(many, done)[1][-1])
                Shown.sees(self, takes, many, done)

    def test_what_was_told_stays(self):
        takes = Takes(4)
        shown = [takes.shown()]
        for one, other in ((0, 1), (2, 3), (1, 3), (0, 2), (0, 3)):
            takes.join(one, other)
            shown.append(takes.shown())
        ahead = copy.deepcopy(shown)
        takes.back(1)
        takes.join(3, 1)
        takes.back(0)
        self.assertEqual(shown, ahead)
        self.assertEqual(shown, [replayed(4, [(0, 1), (2, 3), (1, 3), (0, 2), (0, 3)][:k])[0] for k in range(6)])


class Refused(unittest.TestCase):
    def refused(self, takes, thing):
        ahead, joins = takes.shown(), takes.joins()
        as_it_was = repr(thing)
        with self.assertRaises(NoMark) as caught:
            takes.back(thing)
        self.assertIs(caught.exception.thing, thing)
        self.assertIsInstance(caught.exception, TieError)
        self.assertNotIsInstance(caught.exception, NoDeed)
        self.assertEqual(repr(thing), as_it_was)
        self.assertEqual((takes.shown(), takes.joins()), (ahead, joins))

    def test_what_is_no_such_number(self):
        for done in (0, 1, 3, 60):
            takes = Takes(5)
            joins = some_joins(done, 5, done)
            for one, other in joins:
                takes.join(one, other)
            for thing in NO_NUMBERS + (done + 1, done + 2):
                with self.subTest(done=done, thing=repr(thing)[:100]):
                    self.refused(takes, thing)
            for mark in range(done, -1, -1):
                takes.back(mark)
                self.assertEqual(takes.shown(), replayed(5, joins[:mark])[0])

    def test_more_than_are_left(self):
        takes = Takes(3)
        for one, other in ((0, 1), (1, 2), (0, 2)):
            takes.join(one, other)
        takes.back(1)
        for thing in (2, 3):
            self.refused(takes, thing)
        takes.join(2, 1)
        takes.back(2)
        self.refused(takes, 3)


if __name__ == "__main__":
    unittest.main()
