"""[25], [4]: papers through moments, told and read."""

import random
import unittest

from asked import AGAIN, BRIEF, HISTORY, LIKE
from joinedever.papers import is_paper, paper_for
from joinedever.spans import has_moment
from joinedever.joinings import joined_spans
from joinedever.through import hold_through, papers_through
from samples import (
    MOST, ODD_THINGS, come, deep_thing, go, is_number, moments_of, reach_reckoned, some_histories, stand_reckoned,
    stays_as_it_was, wide_thing,
)

# 0 and 1 are joined from 3 on to 8 by "a", from 6 on to 12 by "b", and from 20 on; several deeds are at one moment.
DEEDS = (
    come(3, "a", 0, 1), come(6, "b", 1, 0), come(6, "c", 1, 2), go(8, "a"), go(8, "c"), come(8, "d", 2, 3), go(12, "b"),
    come(15, "a", 0, 1), go(15, "a"), come(20, "a", 1, 0),
)
TOLD = (4, DEEDS)
WAY_A, WAY_B = ("joined", ("a",)), ("joined", ("b",))
CUT = ("parted", (0,))
RIGHT = ((0, 3, CUT), (3, 6, WAY_A), (6, 12, WAY_B), (12, 20, CUT), (20, 30, WAY_A))
ANY_THINGS = ODD_THINGS + (
    0, 1, 2, 3, -1, 10 ** 39, -10 ** 39, deep_thing(20), wide_thing(5000), "joined", CUT, WAY_A, (0, 3), (0, 3, CUT),
)


def deeds_of(history, moment):
    return len([deed for deed in history[1] if deed[1] <= moment])


class Told(unittest.TestCase):
    def right(self, history, one, other, low, high):
        """Looks at what is told by the words of the document, and tells it."""
        told = stays_as_it_was(self, papers_through, history, one, other, low, high)
        self.assertIs(type(told), tuple)
        self.assertLessEqual(len(told), len(history[1]) + 1)
        begin = low
        for piece in told:
            self.assertEqual((type(piece), len(piece)), (tuple, 3))
            start, stop, paper = piece
            self.assertTrue(is_number(start) and is_number(stop))
            self.assertEqual(start, begin)
            self.assertLess(start, stop)
            for moment in [start, stop - 1] + [moment for moment in moments_of(history) if start <= moment < stop]:
                self.assertIs(is_paper(history, deeds_of(history, moment), one, other, paper), True)
            begin = stop
        self.assertEqual(begin, high)
        self.assertEqual(papers_through(history, one, other, low, high), told)
        self.assertIs(hold_through(history, one, other, low, high, told), True)
        return told

    def test_of_low_and_high_alike(self):
        for moment in (0, 1, 3, 8, 20, MOST):
            self.assertEqual(self.right(TOLD, 0, 1, moment, moment), ())
            self.assertEqual(self.right((1, ()), 0, 0, moment, moment), ())

    def test_of_one_moment(self):
        for moment in (0, 2, 3, 5, 6, 7, 8, 12, 14, 15, 16, 19, 20, MOST - 1):
            self.assertEqual(len(self.right(TOLD, 0, 1, moment, moment + 1)), 1)

    def test_of_all_moments(self):
        for history in (TOLD, HISTORY, AGAIN, LIKE, BRIEF):
            for one in range(history[0]):
                for other in range(history[0]):
                    self.right(history, one, other, 0, MOST)

    def test_that_begin_and_end_at_deeds_moments_and_beside_them(self):
        moments = moments_of(TOLD)
        for low in moments:
            for high in moments:
                if low <= high:
                    self.right(TOLD, 0, 1, low, high)
                    self.right(TOLD, 3, 1, low, high)

    def test_of_no_deeds(self):
        for many in (1, 2, 24):
            told = self.right((many, ()), 0, many - 1, 0, MOST)
            self.assertEqual(told, ((0, MOST, ("joined", ()) if many == 1 else told[0][2]),))
            self.right((many, ()), 0, many - 1, 5, 6)

    def test_at_most_one_piece_more_than_deeds(self):
        deeds = tuple(deed for k in range(30) for deed in (come(4 * k + 1, "a"), go(4 * k + 3, "a")))
        self.assertEqual(len(self.right((2, deeds), 0, 1, 0, MOST)), 61)
        self.assertEqual(len(self.right((2, deeds), 0, 1, 0, 1)), 1)

    def test_deeds_at_0_and_at_the_last_moment(self):
        history = (2, (come(0, "a"), go(MOST, "a")))
        self.assertEqual(self.right(history, 0, 1, 0, MOST), ((0, MOST, WAY_A),))

    def test_over_many(self):
        for seed, history in enumerate(some_histories(40)):
            dice = random.Random(seed)
            moments = moments_of(history)
            for turn in range(6):
                low, high = sorted(dice.choices(moments, k=2))
                one, other = dice.choices(range(history[0]), k=2)
                for piece in self.right(history, one, other, low, high):
                    n = deeds_of(history, piece[0])
                    reach = reach_reckoned(history[0], stand_reckoned(history, n))
                    self.assertEqual(piece[2][0], "joined" if reach[one][other] else "parted")


class Checked(unittest.TestCase):
    def holds(self, thing, truth, low=0, high=30, one=0, other=1, history=TOLD):
        with self.subTest(thing=repr(thing)[:200], low=low, high=high):
            self.assertIs(stays_as_it_was(self, hold_through, history, one, other, low, high, thing), truth)


class LetBy(Checked):
    def test_by_another_hand(self):
        self.holds(RIGHT, True)
        # The other tie, where both are there; ways that go to and fro; other cuts.
        self.holds(((0, 3, CUT), (3, 8, WAY_A), (8, 12, WAY_B), (12, 20, CUT), (20, 30, WAY_A)), True)
        self.holds(((0, 3, ("parted", (0, 2))), (3, 7, WAY_A), (7, 12, WAY_B)), True, 0, 12)
        self.holds(((6, 8, ("joined", ("a", "b", "a"))),), True, 6, 8)
        self.holds(((12, 20, ("parted", (0, 2, 3))),), True, 12, 20)

    def test_cut_anywhere(self):
        dice = random.Random(3)
        for turn in range(60):
            pieces = []
            for start, stop, paper in RIGHT:
                marks = sorted({start, stop} | set(dice.choices(range(start, stop + 1), k=3)))
                pieces += [(low, high, paper) for low, high in zip(marks, marks[1:])]
            self.holds(tuple(pieces), True)

    def test_hundreds_of_pieces(self):
        pieces = tuple((k, k + 1, CUT) for k in range(3)) + RIGHT[1:4]
        pieces += tuple((k, k + 1, WAY_A) for k in range(20, 920))
        self.holds(pieces, True, 0, 920)
        self.holds(pieces, False, 0, 921)
        self.holds(pieces[:-1], False, 0, 920)
        self.holds(pieces[:500] + pieces[501:], False, 0, 920)
        self.holds(pieces[:500] + ((pieces[500][0], pieces[500][1], WAY_B),) + pieces[501:], False, 0, 920)

    def test_one_paper_through_deeds_that_leave_it_right(self):
        self.holds(((6, 12, WAY_B),), True, 6, 12)
        self.holds(((12, 20, CUT),), True, 12, 20)
        self.holds(((0, MOST, ("joined", ())),), True, 0, MOST, 2, 2)
        self.holds(((0, 8, ("parted", (3,))),), True, 0, 8, 3, 0)

    def test_none_where_low_and_high_are_alike(self):
        for moment in (0, 3, 8, MOST):
            self.holds((), True, moment, moment)
            self.holds(((moment, moment, CUT),), False, moment, moment)
            self.holds(((moment, moment + 1, CUT),), False, moment, moment)
            self.holds([], False, moment, moment)


class NotLetBy(Checked):
    def put(self, number, *piece):
        return RIGHT[:number] + (piece,) + RIGHT[number + 1:]

    def test_another_first_from(self):
        self.holds(RIGHT[1:], False)
        self.holds(self.put(0, 1, 3, CUT), False)
        self.holds(RIGHT, False, 1, 30)
        self.holds(self.put(0, 1, 3, CUT), True, 1, 30)
        self.holds(self.put(0, -1, 3, CUT), False)

    def test_another_last_to(self):
        self.holds(RIGHT[:4], False)
        self.holds(RIGHT, False, 0, 29)
        self.holds(RIGHT, False, 0, 31)
        self.holds(self.put(4, 20, 29, WAY_A), False)
        self.holds(self.put(4, 20, 31, WAY_A), False)
        self.holds(RIGHT + ((30, 31, WAY_A),), False)
        self.holds(RIGHT + ((30, 10 ** 39, WAY_A),), False)

    def test_a_gap(self):
        for number in range(5):
            if number:
                self.holds(RIGHT[:number] + RIGHT[number + 1:], False)
                start, stop, paper = RIGHT[number]
                self.holds(self.put(number, start + 1, stop, paper), False)
        self.holds(self.put(3, 12, 19, CUT), False)

    def test_two_that_overlap(self):
        # In each the papers are right at all moments of their pieces.
        self.holds(self.put(2, 5, 12, WAY_B), False)
        self.holds(((0, 3, CUT), (3, 7, WAY_A), (6, 12, WAY_B)), False, 0, 12)
        self.holds(((0, 3, CUT), (3, 8, WAY_A), (6, 12, WAY_B)), False, 0, 12)
        self.holds(((12, 16, CUT), (15, 20, CUT)), False, 12, 20)
        self.holds(((12, 20, CUT), (12, 20, CUT)), False, 12, 20)

    def test_from_not_less_than_to(self):
        self.holds(((0, 3, CUT), (3, 3, CUT)) + RIGHT[1:], False)
        self.holds(((0, 3, CUT), (3, 3, WAY_A)) + RIGHT[1:], False)
        self.holds(((0, 3, CUT), (3, 2, CUT), (2, 3, CUT)) + RIGHT[1:], False)
        self.holds(RIGHT + ((30, 30, WAY_A),), False)
        self.holds(((12, 20, CUT), (20, 15, CUT), (15, 20, CUT)), False, 12, 20)

    def test_the_order_of_pieces(self):
        self.holds(RIGHT[::-1], False)
        self.holds(RIGHT[:1] + (RIGHT[2], RIGHT[1]) + RIGHT[3:], False)

    def test_a_paper_that_is_none_at_its_first_moment(self):
        self.holds(((0, 2, CUT), (2, 6, WAY_A)) + RIGHT[2:], False)
        self.holds(((0, 3, CUT), (3, 5, WAY_A), (5, 12, WAY_B)) + RIGHT[3:], False)
        self.holds(RIGHT[:2] + ((6, 11, WAY_B), (11, 20, CUT), RIGHT[4]), False)
        self.holds(((2, 8, WAY_A),), False, 2, 8)

    def test_a_paper_that_is_none_at_its_last_moment(self):
        self.holds(((0, 4, CUT), (4, 6, WAY_A)) + RIGHT[2:], False)
        self.holds(RIGHT[:1] + ((3, 9, WAY_A), (9, 12, WAY_B)) + RIGHT[3:], False)
        self.holds(RIGHT[:3] + ((12, 21, CUT), (21, 30, WAY_A)), False)
        self.holds(((3, 9, WAY_A),), False, 3, 9)

    def test_a_paper_that_is_none_between_them(self):
        self.holds(((3, 30, WAY_A),), False, 3, 30)
        self.holds(((0, 13, CUT),), False, 0, 13)
        # Gone for one moment alone.
        history = (2, (come(1, "a"), go(5, "a"), come(6, "a")))
        self.holds(((1, 9, WAY_A),), False, 1, 9, history=history)
        self.holds(((1, 5, WAY_A), (5, 6, CUT), (6, 9, WAY_A)), True, 1, 9, history=history)
        # Gone and come again at one moment, it is there at all moments.
        history = (2, (come(1, "a"), go(5, "a"), come(5, "a")))
        self.holds(((1, 9, WAY_A),), True, 1, 9, history=history)

    def test_none_where_low_is_less_than_high(self):
        self.holds((), False)
        self.holds((), False, 0, 1)
        self.holds((), False, 0, MOST)

    def test_a_truth_for_a_number(self):
        history = (2, ())
        self.holds(((0, 1, CUT), (1, 2, CUT)), True, 0, 2, history=history)
        self.holds(((False, 1, CUT), (1, 2, CUT)), False, 0, 2, history=history)
        self.holds(((0, True, CUT), (1, 2, CUT)), False, 0, 2, history=history)
        self.holds(((0, 1, CUT), (True, 2, CUT)), False, 0, 2, history=history)
        self.holds(((0, True, CUT),), False, 0, 1, history=history)

    def test_lists_for_tuples(self):
        self.holds(list(RIGHT), False)
        self.holds(RIGHT[:4] + ([20, 30, WAY_A],), False)
        self.holds(RIGHT[:4] + ((20, 30, list(WAY_A)),), False)
        self.holds(RIGHT[:4] + ((20, 30, ("joined", ["a"])),), False)
        self.holds(dict(enumerate(RIGHT)), False)

    def test_pieces_of_another_length(self):
        for piece in ((), (20,), (20, 30), (20, 30, WAY_A, WAY_A), (20, 30) + WAY_A):
            self.holds(RIGHT[:4] + (piece,), False)

    def test_any_things(self):
        for thing in ANY_THINGS:
            self.holds(thing, False)
            self.holds(thing, repr(thing) == "()", 3, 3)
            for number in range(5):
                piece = RIGHT[number]
                self.holds(RIGHT[:number] + (thing,) + RIGHT[number + 1:], thing == piece)
                for at in range(3):
                    other = piece[:at] + (thing,) + piece[at + 1:]
                    same = type(thing) is type(piece[at]) and thing == piece[at]
                    self.holds(RIGHT[:number] + (other,) + RIGHT[number + 1:], same)
            self.holds(RIGHT + (thing,), False)
            self.holds((thing,) + RIGHT, False)


class WithSpans(unittest.TestCase):
    def test_what_is_let_by_is_so(self):
        for seed, history in enumerate(some_histories(30)):
            dice = random.Random(seed)
            one, other = dice.choices(range(history[0]), k=2)
            spans = joined_spans(history, one, other)
            for start, stop, paper in papers_through(history, one, other, 0, MOST):
                for moment in (start, stop - 1):
                    self.assertIs(has_moment(spans, moment), paper[0] == "joined")
                # Of a longer piece it is let by just where its paper is right at all deeds' moments in it.
                for end in [moment for moment in moments_of(history) if moment > start][:12]:
                    numbers = {deeds_of(history, moment) for moment in moments_of(history) if start <= moment < end}
                    truth = all(is_paper(history, n, one, other, paper) for n in numbers)
                    self.assertIs(hold_through(history, one, other, start, end, ((start, end, paper),)), truth)

    def test_papers_told_behind_deeds_serve(self):
        for history in (TOLD, HISTORY, AGAIN):
            for start, stop, paper in papers_through(history, 0, 1, 0, MOST):
                again = paper_for(history, deeds_of(history, start), 0, 1)
                self.assertIs(hold_through(history, 0, 1, start, stop, ((start, stop, again),)), True)


if __name__ == "__main__":
    unittest.main()
