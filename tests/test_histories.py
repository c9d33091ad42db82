"""[2] names, [5] histories and what is none."""

import copy
import unittest

from joinedever.errors import NoHistory, TieError
from joinedever.histories import is_name, right_history
from samples import (
    LETTERS, MOST, ODD_THINGS, come, deep_thing, go, some_histories, stays_as_it_was, wide_thing,
)

FORTY = 10 ** 39


class Names(unittest.TestCase):
    def test_names(self):
        names = list(LETTERS) + ["ab", "zz", "az", "za", "tie", "abcdefg", "abcdefgh", "zzzzzzzz", "aaaaaaaa"]
        for name in names:
            with self.subTest(name=name):
                self.assertIs(is_name(name), True)

    def test_too_short_and_too_long(self):
        for text in ("", "abcdefghi", "aaaaaaaaa", "a" * 10, "a" * 4000):
            self.assertIs(is_name(text), False)

    def test_other_signs_anywhere(self):
        others = [chr(code) for code in range(32, 127) if chr(code) not in LETTERS]
        # Signs beyond the bounds are letters to Python, but none of a to z.
        others += ["\n", "\t", "\r", "\x00", "\u00e9", "\u00df", "\u0431"]
        for sign in others:
            for text in (sign, sign + "ab", "a" + sign + "b", "ab" + sign):
                with self.subTest(text=text):
                    self.assertIs(is_name(text), False)

    def test_what_is_no_text(self):
        things = [thing for thing in ODD_THINGS if not isinstance(thing, str)]
        things += [0, 1, -1, FORTY, ("a",), ["a"], {"a": "a"}, ["a", "b"], ("a", "b", "c")]
        things += [deep_thing(20), wide_thing(6000)]
        for thing in things:
            with self.subTest(thing=thing):
                self.assertIs(stays_as_it_was(self, is_name, thing), False)

    def test_told_the_same_again(self):
        self.assertEqual([is_name(text) for text in ("a", "A", "a", "A")], [True, False, True, False])


class Right(unittest.TestCase):
    def right(self, thing):
        self.assertIs(stays_as_it_was(self, right_history, thing), True)

    def test_no_deeds(self):
        for many in range(1, 25):
            self.right((many, ()))

    def test_sixty_deeds(self):
        names = [one + other for one in "abcdef" for other in "abcdefghij"]
        self.right((24, tuple(come(0, name, 0, 23) for name in names)))
        self.right((2, tuple(come(k, "a") if k % 2 == 0 else go(k, "a") for k in range(60))))

    def test_borders_of_moments_and_weights(self):
        self.right((2, (come(0, "a", 0, 1, 0), come(MOST, "b", 1, 0, MOST), go(MOST, "a"))))

    def test_borders_of_places(self):
        self.right((24, (come(1, "a", 0, 23), come(1, "b", 23, 0), come(1, "c", 22, 23))))

    def test_moments_alike(self):
        self.right((2, (come(5, "a"), come(5, "b"), go(5, "b"), come(6, "c"), go(6, "a"))))

    def test_ties_between_the_same_places(self):
        self.right((2, (come(1, "a"), come(2, "b"), come(3, "c", 1, 0))))

    def test_comes_again_with_other_places_and_weight(self):
        self.right((4, (come(1, "a", 0, 1, 5), go(2, "a"), come(3, "a", 3, 2, 6))))

    def test_comes_and_goes_at_one_moment(self):
        self.right((2, (come(1, "a"), go(1, "a"))))
        self.right((2, (come(1, "a"), go(1, "a"), come(1, "a"), go(1, "a"))))

    def test_names_of_one_and_eight_letters(self):
        self.right((2, (come(1, "z"), come(1, "abcdefgh"), go(1, "abcdefgh"), go(1, "z"))))

    def test_some_histories(self):
        for history in some_histories():
            self.right(history)


class Refused(unittest.TestCase):
    def refused(self, thing, number, word):
        ahead = copy.deepcopy(thing)
        for again in range(2):
            with self.assertRaises(NoHistory) as caught:
                right_history(thing)
            self.assertEqual((caught.exception.number, caught.exception.word), (number, word), repr(thing)[:200])
            self.assertIs(type(caught.exception.number), int)
            self.assertIsInstance(caught.exception, TieError)
        self.assertEqual(repr(thing), repr(ahead))

    def test_no_tuple_of_two(self):
        for thing in ODD_THINGS + (5, FORTY, [2, ()], (2,), (2, (), ()), ((), 2), {2: ()}, "ab"):
            self.refused(thing, 0, "shape")
        self.refused(deep_thing(20), 0, "shape")
        self.refused(wide_thing(6000), 0, "shape")

    def test_many_is_no_such_number(self):
        for many in (0, 25, -1, -24, FORTY, -FORTY, True, False, None, "2", (2,), [2], {}, ()):
            self.refused((many, ()), 0, "shape")
            # Told by its shape, whatever its deeds are.
            self.refused((many, (come(1, "a"), 7)), 0, "shape")

    def test_deeds_are_no_tuple(self):
        for deeds in ([], [come(1, "a")], None, {}, "", "come", 0, 5, True, {0: come(1, "a")}):
            self.refused((2, deeds), 0, "shape")

    def test_sixty_one_deeds(self):
        deeds = tuple(come(k, "a") if k % 2 == 0 else go(k, "a") for k in range(61))
        self.refused((2, deeds), 0, "shape")
        # Ahead of what is wrong with a deed, and of things that are none.
        self.refused((2, (None,) + deeds), 0, "shape")
        self.refused((2, (None,) * 61), 0, "shape")
        self.refused((2, wide_thing(5990)), 0, "shape")
        self.refused((2, (None,) * 60), 0, "deed")

    def wrong_deeds(self):
        good = come(3, "b", 0, 2, 4)
        leaving = go(3, "a")
        wrong = [good[:end] for end in range(6)] + [good + (0,), good + (None,), good + good]
        wrong += [leaving[:end] for end in range(3)] + [leaving + (0,), leaving + (0, 1), leaving + (0, 1, 4)]
        wrong += [("go",) + good[1:], ("come",) + leaving[1:]]
        wrong += [list(good), list(leaving), dict(enumerate(good)), "come", 7, None, True, FORTY, (good,), ((),)]
        replaced = {
            0: ("Come", "come ", "coming", "", "go", None, 0, ("come",), ["come"], {}),
            1: (-1, MOST + 1, True, False, None, "3", (3,), [3], {}, FORTY, -FORTY),
            2: ("", "B", "b1", "b b", "abcdefghi", None, 7, True, ("b",), ["b"], {}),
            3: (-1, 3, 24, True, False, None, "0", (0,), [0], {}, FORTY, 2),
            4: (-1, 3, 24, True, False, None, "2", (2,), [2], {}, FORTY, 0),
            5: (-1, MOST + 1, True, False, None, "4", (4,), [4], {}, FORTY, -FORTY),
        }
        for part, things in replaced.items():
            for thing in things:
                wrong.append(good[:part] + (thing,) + good[part + 1:])
                if part < 3 and thing != "go":
                    wrong.append(leaving[:part] + (thing,) + leaving[part + 1:])
        return wrong + list(ODD_THINGS)

    def test_deed(self):
        ahead = (come(1, "a", 0, 1), come(2, "c", 1, 2))
        for deed in self.wrong_deeds():
            self.refused((3, (deed,)), 0, "deed")
            self.refused((3, ahead + (deed,)), 2, "deed")
            self.refused((3, ahead + (deed, go(9, "c"))), 2, "deed")

    def test_deed_of_the_forms_that_are_wrong_here_is_else_right(self):
        # So that each wrong deed above is refused for its one wrong part.
        ahead = (come(1, "a", 0, 1), come(2, "c", 1, 2))
        self.assertIs(right_history((3, ahead + (come(3, "b", 0, 2, 4),))), True)
        self.assertIs(right_history((3, ahead + (go(3, "a"),))), True)

    def test_no_tie_between_one_place(self):
        self.refused((1, (come(1, "a", 0, 0),)), 0, "deed")
        self.refused((1, (come(1, "a", 0, 1),)), 0, "deed")

    def test_moment(self):
        self.refused((2, (come(5, "a"), come(4, "b"))), 1, "moment")
        self.refused((2, (come(5, "a"), go(4, "a"))), 1, "moment")
        self.refused((2, (come(MOST, "a"), come(MOST, "b"), go(0, "a"))), 2, "moment")
        # Less than the one ahead, though not less than the first one.
        self.refused((2, (come(1, "a"), come(9, "b"), go(8, "a"))), 2, "moment")

    def test_there(self):
        self.refused((3, (come(1, "a"), come(1, "a"))), 1, "there")
        self.refused((3, (come(1, "a", 0, 1, 2), come(2, "a", 1, 2, 3))), 1, "there")
        self.refused((3, (come(1, "a"), go(1, "a"), come(2, "a"), come(3, "b"), come(4, "a"))), 4, "there")

    def test_gone(self):
        self.refused((3, (go(1, "a"),)), 0, "gone")
        self.refused((3, (come(1, "a"), go(2, "b"))), 1, "gone")
        self.refused((3, (come(1, "a"), go(2, "a"), go(2, "a"))), 2, "gone")

    def test_each_word_at_the_last_of_sixty(self):
        deeds = tuple(come(k, "a") if k % 2 == 0 else go(k, "a") for k in range(59))
        for deed, word in (
            (come(58, "b", 0, 0), "deed"), (go(57, "a"), "moment"), (come(58, "a"), "there"), (go(58, "b"), "gone"),
        ):
            self.refused((2, deeds + (deed,)), 59, word)
        self.assertIs(right_history((2, deeds + (go(58, "a"),))), True)

    def test_of_two_words_the_first(self):
        ahead = (come(5, "a"), come(6, "b"), go(7, "b"))
        self.refused((2, ahead + (come(4, "a", 0, 2),)), 3, "deed")
        self.refused((2, ahead + (come(7, "a", 1, 1),)), 3, "deed")
        self.refused((2, ahead + (go(-1, "b"),)), 3, "deed")
        self.refused((2, ahead + (come(6, "a"),)), 3, "moment")
        self.refused((2, ahead + (go(6, "b"),)), 3, "moment")
        self.refused((2, (go(7, "b"), 7)), 0, "gone")

    def test_of_two_deeds_the_first(self):
        self.refused((2, (come(1, "a"), come(1, "a"), None)), 1, "there")
        self.refused((2, (come(1, "a"), go(0, "a"), go(1, "c"))), 1, "moment")
        self.refused((2, (go(1, "a"), come(0, "b"), 5)), 0, "gone")
        self.refused((2, (come(1, "a"), 5, go(0, "b"))), 1, "deed")


if __name__ == "__main__":
    unittest.main()
