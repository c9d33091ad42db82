"""[2], [3]: the refusals and their fields."""

import unittest

from joinedever import errors
from joinedever.errors import NoDeed, NoHistory, NoMark, NoRow, NoText, TieError
from samples import ODD_THINGS, deep_thing

REFUSALS = (NoHistory, NoDeed, NoMark, NoText, NoRow)
MADE = {
    NoHistory: lambda: NoHistory(3, "deed"),
    NoDeed: lambda: NoDeed("gone"),
    NoMark: lambda: NoMark([1]),
    NoText: lambda: NoText(61),
    NoRow: lambda: NoRow("no such row"),
}


class Fields(unittest.TestCase):
    def test_fields_are_read_back_in_their_order(self):
        error = NoHistory(7, "moment")
        self.assertEqual((error.number, error.word), (7, "moment"))
        self.assertEqual(NoDeed("there").word, "there")
        self.assertEqual(NoMark(-1).thing, -1)
        self.assertEqual(NoText(0).at, 0)

    def test_fields_may_be_anything(self):
        for thing in ODD_THINGS + (10 ** 39, -10 ** 39, deep_thing(20)):
            with self.subTest(thing=thing):
                self.assertIs(NoHistory(thing, 1).number, thing)
                self.assertIs(NoHistory(1, thing).word, thing)
                self.assertIs(NoDeed(thing).word, thing)
                self.assertIs(NoMark(thing).thing, thing)
                self.assertIs(NoText(thing).at, thing)

    def test_two_of_a_kind_keep_their_own_fields(self):
        first, second = NoHistory(1, "deed"), NoHistory(2, "gone")
        self.assertEqual((first.number, first.word), (1, "deed"))
        self.assertEqual((second.number, second.word), (2, "gone"))

    def test_made_of_just_these(self):
        for make in (
            lambda: NoHistory(1), lambda: NoHistory(1, "deed", 2), lambda: NoHistory(),
            lambda: NoDeed(), lambda: NoDeed("a", "b"), lambda: NoMark(), lambda: NoMark(1, 2),
            lambda: NoText(), lambda: NoText(1, 2),
        ):
            with self.assertRaises(TypeError):
                make()

    def test_no_row_is_made_of_a_text(self):
        for text in ("", "no such row", "~" * 4000, "two\nlines"):
            self.assertEqual(str(NoRow(text)), text)

    def test_a_message_can_be_shown(self):
        for make in MADE.values():
            self.assertIsInstance(str(make()), str)
            self.assertIsInstance(repr(make()), str)


class Kin(unittest.TestCase):
    def test_each_is_caught_by_its_name_and_those_above(self):
        for kind, make in MADE.items():
            for caught in (kind, TieError, ValueError):
                with self.subTest(kind=kind, caught=caught):
                    with self.assertRaises(caught):
                        raise make()

    def test_none_is_caught_by_another_name(self):
        for kind, make in MADE.items():
            for other in REFUSALS:
                if other is not kind:
                    self.assertNotIsInstance(make(), other)

    def test_all_stand_straight_under_tie_error(self):
        for kind in REFUSALS:
            self.assertEqual(kind.__bases__, (TieError,))
        self.assertEqual(TieError.__bases__, (ValueError,))

    def test_no_other_refusals(self):
        kinds = [thing for thing in vars(errors).values() if isinstance(thing, type)]
        self.assertEqual(set(kinds), set(REFUSALS) | {TieError})


if __name__ == "__main__":
    unittest.main()
