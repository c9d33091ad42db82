"""[28]: the desk, its rows, its answers and its refusals."""

import random
import unittest

from joinedever.desk import Desk
from joinedever.errors import NoDeed, NoRow, TieError
from joinedever.histories import right_history
from joinedever.joinings import how_long
from joinedever.lightest import lightest
from joinedever.sides import sides_of
from joinedever.texts import read_history, show_history
from light import lightest_by_taking_away
from samples import (
    MOST, ODD_THINGS, come, deep_thing, go, moments_of, reach_reckoned, some_histories, stand_reckoned, stays_as_it_was,
    wide_thing,
)

# 0, 1, 2 are a ring from 4 on, 3 is tied to it from 6 on; at 9 "b" goes; 4 is alone. The desk's moment is 12.
ROWS = (
    "at 2", "come a 0 1 5", "come b 1 2 3", "at 4", "come c 2 0 4", "at 6", "come dd 3 2 1", "at 9", "go b", "at 12",
)
HISTORY = (5, (
    come(2, "a", 0, 1, 5), come(2, "b", 1, 2, 3), come(4, "c", 2, 0, 4), come(6, "dd", 3, 2, 1), go(9, "b"),
))
TEXT = "places 5 / 2 come a 0 1 5 / 2 come b 1 2 3 / 4 come c 2 0 4 / 6 come dd 3 2 1 / 9 go b"
# One right row of each of the twelve forms, for the desk below.
FORMS = (
    "at 12", "come e 4 0 7", "go a", "joined 0 1", "way 0 1", "parts", "size 3", "forest", "sides", "was 0 1 5", "long 0 1", "show",
)


def busy():
    """A desk of five places with the rows above behind it."""
    desk = Desk(5)
    for row in ROWS:
        assert desk.say(row) == "ok"
    return desk


def of_moment(desk):
    """The desk's moment, found by what it takes; desks are left as they were."""
    low, high = 0, MOST
    while low < high:
        middle = (low + high + 1) // 2
        try:
            desk.say(f"was 0 0 {middle}")
            low = middle
        except NoDeed:
            high = middle - 1
    return low


class Case(unittest.TestCase):
    def said(self, desk, row, text):
        with self.subTest(row=row):
            told = desk.say(row)
            self.assertIs(type(told), str)
            self.assertEqual(told, text)

    def state(self, desk):
        return repr(desk.history()), desk.say("show"), of_moment(desk)

    def refused(self, desk, row, kind, word=None):
        """Refused is the row, and all is as it was."""
        ahead = self.state(desk)
        with self.subTest(row=repr(row)[:200]):
            for turn in range(2):
                with self.assertRaises(kind) as caught:
                    stays_as_it_was(self, desk.say, row)
                self.assertIs(type(caught.exception), kind)
                self.assertIsInstance(caught.exception, TieError)
                if kind is NoDeed:
                    self.assertEqual(caught.exception.word, word)
                else:
                    self.assertEqual(len(caught.exception.args), 1)
                    self.assertIs(type(caught.exception.args[0]), str)
            self.assertEqual(self.state(desk), ahead)


class Answers(Case):
    def test_at_first(self):
        for many in (1, 2, 24):
            desk = Desk(many)
            self.assertEqual(repr(desk.history()), repr((many, ())))
            for row, text in (
                ("joined 0 0", "yes"), ("way 0 0", "="), ("parts", str(many)), ("size 0", "1"), ("forest", "-"), ("sides", "even"),
                ("was 0 0 0", "yes"), ("long 0 0", "0"), ("show", f"places {many}"), ("at 0", "ok"),
            ):
                self.said(desk, row, text)
            self.assertEqual(of_moment(desk), 0)
        desk = Desk(2)
        for row, text in (("joined 0 1", "no"), ("way 0 1", "-"), ("was 0 1 0", "no"), ("long 1 0", "0"), ("come a 0 1 0", "ok")):
            self.said(desk, row, text)
        self.refused(Desk(2), "go a", NoDeed, "gone")

    def test_the_history(self):
        desk = busy()
        self.assertEqual(repr(desk.history()), repr(HISTORY))
        self.said(desk, "show", TEXT)
        self.assertIs(right_history(desk.history()), True)

    def test_behind_many_deeds(self):
        desk = busy()
        for row, text in (
            ("joined 0 3", "yes"), ("joined 3 0", "yes"), ("joined 0 4", "no"), ("joined 4 4", "yes"), ("way 1 3", "a c dd"),
            ("way 3 1", "dd c a"), ("way 2 0", "c"), ("way 2 2", "="), ("way 4 4", "="), ("way 0 4", "-"), ("way 4 0", "-"),
            ("parts", "2"), ("size 0", "4"), ("size 3", "4"), ("size 4", "1"), ("forest", "a c dd"), ("sides", "even"),
        ):
            self.said(desk, row, text)
            self.said(desk, row, text)
        self.assertEqual(desk.history(), HISTORY)

    def test_the_ring_while_it_is_there(self):
        desk = Desk(5)
        for row in ROWS[:7]:
            desk.say(row)
        self.said(desk, "sides", "odd")
        self.said(desk, "forest", "b c dd")
        self.said(desk, "way 1 3", "b dd")
        self.said(desk, "go c", "ok")
        self.said(desk, "sides", "even")
        self.said(desk, "forest", "a b dd")

    def test_was(self):
        desk = busy()
        for row, text in (
            ("was 0 1 1", "no"), ("was 0 1 2", "yes"), ("was 0 2 2", "yes"), ("was 3 0 5", "no"), ("was 3 0 6", "yes"),
            ("was 3 0 12", "yes"), ("was 0 4 12", "no"), ("was 4 4 0", "yes"), ("was 0 1 0", "no"), ("was 1 3 9", "yes"),
        ):
            self.said(desk, row, text)
        # By the stand at the desk's own moment, with all that is done at it.
        self.said(desk, "go a", "ok")
        self.said(desk, "was 0 1 12", "no")
        self.said(desk, "was 0 1 11", "yes")
        self.said(desk, "come a 0 1 2", "ok")
        self.said(desk, "was 0 1 12", "yes")

    def test_long(self):
        desk = busy()
        for row, text in (("long 0 1", "10"), ("long 3 1", "6"), ("long 0 4", "0"), ("long 2 2", "12")):
            self.said(desk, row, text)
        desk.say("at 20")
        for row, text in (("long 0 1", "18"), ("long 3 1", "14"), ("long 0 4", "0"), ("long 2 2", "20")):
            self.said(desk, row, text)
        # What is done at the desk's moment tells of moments from it on.
        desk.say("come e 4 0 0")
        self.said(desk, "long 0 4", "0")
        desk.say("at 21")
        self.said(desk, "long 4 0", "1")
        desk.say(f"at {MOST}")
        self.said(desk, "long 4 0", str(MOST - 20))
        self.said(desk, "long 1 1", str(MOST))

    def test_like_moments_in_at(self):
        desk = busy()
        for turn in range(3):
            self.said(desk, "at 12", "ok")
        self.assertEqual(of_moment(desk), 12)
        self.said(desk, "at 13", "ok")
        self.assertEqual(of_moment(desk), 13)
        self.said(desk, f"at {MOST}", "ok")
        self.said(desk, f"at {MOST}", "ok")
        self.assertEqual(of_moment(desk), MOST)

    def test_numbers_within_the_bounds(self):
        desk = Desk(24)
        for row in (f"at {MOST}", f"come a 0 23 {MOST}", "come zzzzzzzz 23 0 0", "go zzzzzzzz", "come zzzzzzzz 9 10 100"):
            self.said(desk, row, "ok")
        self.said(desk, f"was 23 0 {MOST}", "yes")
        self.said(desk, f"was 23 0 {MOST - 1}", "no")
        self.said(desk, "way 10 9", "zzzzzzzz")

    def test_a_tie_that_comes_again(self):
        desk = busy()
        self.said(desk, "come b 3 4 9", "ok")
        self.said(desk, "way 4 3", "b")
        self.said(desk, "show", TEXT + " / 12 come b 3 4 9")
        self.said(desk, "parts", "1")

    def test_a_way_of_the_fewest_ties(self):
        desk = Desk(24)
        for k in range(23):
            desk.say(f"come {chr(97 + k)} {k} {k + 1} 0")
        self.said(desk, "way 0 23", " ".join(chr(97 + k) for k in range(23)))
        desk.say("come zz 23 0 9")
        self.said(desk, "way 0 23", "zz")
        self.said(desk, "way 0 22", "zz w")
        self.said(desk, "size 7", "24")
        self.said(desk, "forest", " ".join(chr(97 + k) for k in range(23)))

    def test_histories_said_row_by_row(self):
        for seed, history in enumerate(some_histories(24)):
            many, deeds = history
            desk = Desk(many)
            for n, deed in enumerate(deeds, 1):
                desk.say(f"at {deed[1]}")
                if deed[0] == "come":
                    self.assertEqual(desk.say(f"come {deed[2]} {deed[3]} {deed[4]} {deed[5]}"), "ok")
                else:
                    self.assertEqual(desk.say(f"go {deed[2]}"), "ok")
                if n % 5 == 0:
                    self.agrees(desk, (many, deeds[:n]), random.Random(seed))
            self.agrees(desk, history, random.Random(seed))
            self.assertEqual(repr(desk.history()), repr(history))
            self.assertEqual(desk.say("show"), show_history(history).replace("\n", " / "))
            self.assertEqual(read_history(desk.say("show").replace(" / ", "\n")), history)

    def agrees(self, desk, history, dice):
        """What the desk tells is what is told of its history."""
        many, deeds = history
        stand = stand_reckoned(history, len(deeds))
        reach = reach_reckoned(many, stand)
        one, other = dice.choices(range(many), k=2)
        self.said(desk, f"joined {one} {other}", "yes" if reach[one][other] else "no")
        self.said(desk, f"size {one}", str(sum(reach[one])))
        self.said(desk, "parts", str(len({tuple(row) for row in reach})))
        self.said(desk, "sides", "even" if sides_of(many, stand)[0] == "sides" else "odd")
        self.said(desk, "forest", " ".join(lightest_by_taking_away(many, stand)) or "-")
        self.assertEqual(lightest(many, stand), lightest_by_taking_away(many, stand))
        now = deeds[-1][1] if deeds else 0
        self.said(desk, f"long {one} {other}", str(how_long(history, one, other, now)))
        for moment in [moment for moment in moments_of(history) if moment <= now][-6:]:
            n = sum(deed[1] <= moment for deed in deeds)
            then = reach_reckoned(many, stand_reckoned(history, n))
            self.said(desk, f"was {one} {other} {moment}", "yes" if then[one][other] else "no")


class NoRows(Case):
    def no_row(self, *rows):
        desk = busy()
        for row in rows:
            self.refused(desk, row, NoRow)

    def test_a_word_too_many_or_too_few(self):
        for row in FORMS:
            self.no_row(row + " 1", row + " a", row + " show")
            if " " in row:
                self.no_row(row.rsplit(" ", 1)[0], row.split(" ")[0], row.split(" ", 1)[1])
        self.no_row("", "at", "come", "go", "come e", "come e 4", "come e 4 0", "was 0 1", "joined 0", "way 0", "size", "long 0")

    def test_blanks(self):
        for row in FORMS:
            self.no_row(" " + row, row + " ", row + "  ", "  " + row, row + "\n", "\n" + row, row + "\r", row + "\t")
            if " " in row:
                self.no_row(row.replace(" ", "  "), row.replace(" ", "  ", 1), row.replace(" ", "\t"), row.replace(" ", ""))
                self.no_row(row.replace(" ", "\u00a0", 1), row.replace(" ", "\n", 1))
        self.no_row(" ", "  ", "\n", "show\nshow", "at 12\nat 13")

    def test_another_word_and_capitals(self):
        for row in FORMS:
            word = row.split(" ")[0]
            self.no_row(row.upper(), row.capitalize(), "x" + row, row.replace(word, word + "s", 1), row.replace(word, word[:-1], 1))
        self.no_row("places 5", "2 come a 0 1 5", "quit", "even", "odd", "moment", "stand", "cut 0 1", "joined? 0 1", "history", "=", "-")

    def test_numbers(self):
        for number in (
            "00", "012", "+12", "-1", "-0", "12.0", "1_2", "0x12", "1e1", "twelve", "", str(MOST + 1), "9999999999", "10000000000",
            "9" * 40, "9" * 3990, "9" * 5000, "\u0661\u0662", "\u00b2", "\uff11\uff12", "a", "=", "12,",
        ):
            self.no_row(f"at {number}", f"come e 4 0 {number}", f"was 0 1 {number}")
            self.no_row(f"come e {number} 0 7", f"come e 4 {number} 7", f"joined {number} 1", f"joined 0 {number}", f"way {number} 1")
            self.no_row(f"way 0 {number}", f"size {number}", f"was {number} 1 5", f"was 0 {number} 5", f"long {number} 1", f"long 0 {number}")

    def test_places_that_there_are_not(self):
        for place in ("5", "6", "24", str(MOST)):
            self.no_row(f"come e {place} 0 7", f"come e 4 {place} 7", f"joined {place} 1", f"joined 0 {place}", f"way {place} 1")
            self.no_row(f"way 0 {place}", f"size {place}", f"was {place} 1 5", f"was 0 {place} 5", f"long {place} 1", f"long 0 {place}")
            self.no_row(f"joined {place} {place}", f"way {place} {place}")
        # 4 is the last one of five; of one place there is 0 alone.
        self.said(busy(), "size 4", "1")
        self.refused(Desk(1), "size 1", NoRow)
        self.refused(Desk(24), "size 24", NoRow)
        self.said(Desk(24), "size 23", "1")

    def test_like_places_in_come_alone(self):
        self.no_row("come e 0 0 7", "come e 4 4 0", "come a 1 1 1")
        for place in range(5):
            desk = busy()
            self.said(desk, f"joined {place} {place}", "yes")
            self.said(desk, f"way {place} {place}", "=")
            self.said(desk, f"was {place} {place} 0", "yes")
            self.said(desk, f"long {place} {place}", "12")
        self.refused(Desk(1), "come a 0 0 0", NoRow)

    def test_names(self):
        for name in ("abcdefghi", "A", "aB", "a1", "1", "a-b", "\u00e9", "~", "", "a_", "\u00df"):
            self.no_row(f"come {name} 4 0 7", f"go {name}")

    def test_things_that_are_no_text(self):
        for thing in ODD_THINGS + (0, 1, -1, 10 ** 39, deep_thing(20), wide_thing(5000), ("show",), ["show"], {"show": 1}):
            if isinstance(thing, str):
                # None of the odd texts is a row.
                self.assertNotIn(thing, FORMS)
            self.no_row(thing)


class NoDeeds(Case):
    def test_moment_in_at(self):
        desk = busy()
        for moment in (0, 1, 9, 11):
            self.refused(desk, f"at {moment}", NoDeed, "moment")
        desk.say(f"at {MOST}")
        self.refused(desk, f"at {MOST - 1}", NoDeed, "moment")
        self.refused(desk, "at 12", NoDeed, "moment")

    def test_moment_in_was(self):
        desk = busy()
        for row in ("was 0 1 13", "was 0 0 13", f"was 0 4 {MOST}"):
            self.refused(desk, row, NoDeed, "moment")
        desk.say("at 13")
        self.said(desk, "was 0 1 13", "yes")
        self.refused(Desk(1), "was 0 0 1", NoDeed, "moment")

    def test_there(self):
        desk = busy()
        for row in ("come a 0 1 5", "come a 3 4 9", "come dd 1 0 0"):
            self.refused(desk, row, NoDeed, "there")
        # Another one of like places is none of it.
        self.said(desk, "come aa 0 1 5", "ok")
        self.refused(desk, "come aa 0 1 5", NoDeed, "there")

    def test_gone(self):
        desk = busy()
        for row in ("go b", "go zzz", "go d", "go aa"):
            self.refused(desk, row, NoDeed, "gone")
        self.said(desk, "go a", "ok")
        self.refused(desk, "go a", NoDeed, "gone")

    def test_full(self):
        desk = Desk(2)
        for k in range(30):
            self.said(desk, "come a 0 1 0", "ok")
            self.said(desk, "go a" if k < 29 else "come b 0 1 0", "ok")
        self.assertEqual(len(desk.history()[1]), 60)
        for row in ("come c 0 1 0", "go a", "go b"):
            self.refused(desk, row, NoDeed, "full")
        # What is told ahead of it goes first.
        self.refused(desk, "come a 0 1 0", NoDeed, "there")
        self.refused(desk, "go c", NoDeed, "gone")
        self.refused(desk, "come c 0 0 0", NoRow)
        self.refused(desk, "come c 0 2 0", NoRow)
        # All else goes on.
        self.said(desk, "at 7", "ok")
        self.said(desk, "joined 0 1", "yes")
        self.said(desk, "long 0 1", "7")
        self.said(desk, "forest", "a")
        self.refused(desk, "come c 0 1 0", NoDeed, "full")
        self.refused(desk, "at 6", NoDeed, "moment")
        self.assertIs(right_history(desk.history()), True)

    def test_no_row_goes_first(self):
        desk = busy()
        for row in ("at 011", "at 5 ", "come a 0 0 5", "come a 0 5 5", "come a 0 1 -5", "go b ", "was 0 5 13", f"was 0 1 {MOST + 1}", "was 9 0 99"):
            self.refused(desk, row, NoRow)


class Desks(Case):
    def test_two_by_turns_leave_one_another_alone(self):
        one, other = Desk(5), Desk(5)
        for row in ROWS:
            self.said(one, row, "ok")
            self.said(other, "show", "places 5")
            self.said(other, "parts", "5")
        self.assertEqual(of_moment(other), 0)
        for row in ("at 3", "come a 3 4 1", "come x 0 4 1", "go a"):
            self.said(other, row, "ok")
        self.assertEqual(repr(one.history()), repr(HISTORY))
        self.said(other, "show", "places 5 / 3 come a 3 4 1 / 3 come x 0 4 1 / 3 go a")
        self.refused(other, "at 2", NoDeed, "moment")
        self.said(one, "joined 0 4", "no")
        self.said(other, "joined 0 4", "yes")
        self.assertEqual((of_moment(one), of_moment(other)), (12, 3))

    def test_by_turns_as_alone(self):
        histories = some_histories(12)[6:10]
        desks = [Desk(many) for many, deeds in histories]
        for number in range(60):
            for desk, (many, deeds) in zip(desks, histories):
                if number < len(deeds):
                    deed = deeds[number]
                    desk.say(f"at {deed[1]}")
                    desk.say(" ".join(str(part) for part in deed[:1] + deed[2:]))
        self.assertEqual([desk.history() for desk in desks], histories)

    def test_a_history_told_is_not_changed_later(self):
        desk = busy()
        told = desk.history()
        desk.say("come e 0 4 0")
        self.assertEqual(told, HISTORY)
        self.assertEqual(len(desk.history()[1]), 6)


if __name__ == "__main__":
    unittest.main()
