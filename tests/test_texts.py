"""[27]: histories written in rows, and read again."""

import unittest

from asked import AGAIN, BRIEF, HISTORY, LIKE, full_history
from joinedever.errors import NoText, TieError
from joinedever.texts import read_history, show_history
from samples import MOST, ODD_THINGS, come, deep_thing, go, some_histories, stays_as_it_was, wide_thing

ROWS = ("places 4", "2 come a 0 1 5", "2 come bb 1 2 0", "7 go a", "7 come a 3 0 12", f"{MOST} come abcdefgh 3 2 {MOST}")
TOLD = (4, (
    come(2, "a", 0, 1, 5), come(2, "bb", 1, 2, 0), go(7, "a"), come(7, "a", 3, 0, 12), come(MOST, "abcdefgh", 3, 2, MOST),
))


def text_of(*rows):
    return "\n".join(rows)


def sixty_rows():
    """Sixty comings and goings of one tie."""
    return [f"{k} come a 0 1 0" if k % 2 == 0 else f"{k} go a" for k in range(60)]


class Shown(unittest.TestCase):
    def told(self, history, text):
        self.assertEqual(stays_as_it_was(self, show_history, history), text)
        self.assertIs(type(show_history(history)), str)

    def test_of_no_deeds(self):
        for many in (1, 2, 9, 10, 24):
            self.told((many, ()), f"places {many}")

    def test_by_hand(self):
        self.told(TOLD, text_of(*ROWS))
        self.told((2, (come(0, "a", 1, 0, 0), go(0, "a"))), "places 2\n0 come a 1 0 0\n0 go a")

    def test_of_sixty(self):
        self.told((2, tuple(come(k, "a") if k % 2 == 0 else go(k, "a") for k in range(60))), text_of("places 2", *sixty_rows()))

    def test_no_line_end_at_the_end(self):
        for history in (TOLD, (1, ()), BRIEF):
            self.assertFalse(show_history(history).endswith("\n"))
            self.assertEqual(show_history(history).count("\n"), len(history[1]))


class Read(unittest.TestCase):
    def test_by_hand(self):
        self.assertEqual(repr(read_history(text_of(*ROWS))), repr(TOLD))

    def test_of_no_deeds(self):
        for many in range(1, 25):
            self.assertEqual(repr(read_history(f"places {many}")), repr((many, ())))

    def test_what_is_shown_is_read_again(self):
        for history in some_histories(60) + [HISTORY, AGAIN, LIKE, BRIEF, full_history(), TOLD]:
            text = show_history(history)
            told = stays_as_it_was(self, read_history, text)
            self.assertEqual(repr(told), repr(history))
            self.assertEqual(show_history(told), text)
            self.assertEqual(read_history(text), told)

    def test_the_longest_text(self):
        names = [chr(97 + k // 26) + chr(97 + k % 26) + "zzzzzz" for k in range(60)]
        history = (24, tuple(come(MOST, name, 22, 23, MOST) for name in names))
        self.assertEqual(read_history(show_history(history)), history)


class Refused(unittest.TestCase):
    def refused(self, thing, at):
        with self.subTest(thing=repr(thing)[:200]):
            for turn in range(2):
                with self.assertRaises(NoText) as caught:
                    stays_as_it_was(self, read_history, thing)
                self.assertIs(type(caught.exception), NoText)
                self.assertEqual(repr(caught.exception.at), repr(at))
                self.assertIsInstance(caught.exception, TieError)

    def instead(self, number, row, at=None):
        """Refused is the text with another row in place of one; at that row, where nothing else is told."""
        rows = ROWS[:number] + (row,) + ROWS[number + 1:]
        self.refused(text_of(*rows), number if at is None else at)

    def test_what_is_no_text(self):
        for thing in ODD_THINGS + (0, 1, 24, -1, 10 ** 39, deep_thing(20), wide_thing(5000), (4, ()), list(ROWS), ROWS, TOLD):
            if not isinstance(thing, str):
                self.refused(thing, 0)

    def test_the_first_row(self):
        for row in (
            "", " ", "places", "places ", "places 0", "places 25", "places 07", "places 00", "places -1", "places +4", "places 4 ",
            " places 4", "places  4", "Places 4", "place 4", "places 4 4", "places four", "places 4.", "4", "4 places", "places\t4",
            "places 4\r", "places 100", "places 1000000000", "places 99999999999999999999", "PLACES 4", "places4", "places 2 4",
            "places 4\t", "places _4", "places 1_0", "places 0x4", "places \u0664", "places \u00b2", "places \uff14", "\ufeffplaces 4",
            "places\u00a04", "\n", "2 come a 0 1 5", "places 4\x0b", "places 4\x0c", "places 4\x1c", "places 4\u2028",
        ):
            self.instead(0, row, 0)
            self.refused(row, 0)

    def test_long_figures(self):
        for row in ("9" * 4000, "1" * 5000, "0" * 5000):
            self.refused("places " + row, 0)
            self.instead(1, row + " come a 0 1 5")
            self.instead(1, "2 come a " + row + " 1 5")
            self.instead(1, "2 come a 0 1 " + row)

    def test_blanks(self):
        for number in range(1, 6):
            row = ROWS[number]
            for wrong in (" " + row, row + " ", row.replace(" ", "  "), row.replace(" ", ""), row.replace(" ", "\t"), "\t" + row):
                self.instead(number, wrong)
            # One blank too many, or one less, at each place.
            for at, sign in enumerate(row):
                if sign == " ":
                    self.instead(number, row[:at] + " " + row[at:])
                    self.instead(number, row[:at] + row[at + 1:])
                    self.instead(number, row[:at] + "\u00a0" + row[at + 1:])

    def test_words(self):
        for row in (
            "2", "2 come", "2 come a", "2 come a 0", "2 come a 0 1", "2 come a 0 1 5 6", "2 go", "2 go a 0", "come 2 a 0 1 5", "go 2 a",
            "2 went a 0 1 5", "2 Come a 0 1 5", "2 COME a 0 1 5", "2 go a 0 1 5", "come a 0 1 5", "2 comes a 0 1 5", "go a", "places 4",
            "2 a come 0 1 5", "2 come 0 1 a 5", "x", "/", "2 / come a 0 1 5", "2  a 0 1 5", "2 gone a",
        ):
            self.instead(1, row)
        self.instead(3, "7 Go a")
        self.instead(3, "7 come a")
        self.instead(3, "7 go a a")

    def test_noughts_ahead_and_signs(self):
        for row in (
            "02 come a 0 1 5", "2 come a 00 1 5", "2 come a 0 01 5", "2 come a 0 1 05", "+2 come a 0 1 5", "-2 come a 0 1 5",
            "2 come a +0 1 5", "2 come a -0 1 5", "2 come a 0 +1 5", "2 come a 0 -1 5", "2 come a 0 1 +5", "2 come a 0 1 -5",
            "2.0 come a 0 1 5", "2 come a 0 1 5.", "1_0 come a 0 1 5", "2 come a 0 1 0x5", "2 come a 0 1 5e1", "two come a 0 1 5",
            "\u0662 come a 0 1 5", "2 come a 0 1 \uff15", "2 come a 0 1 \u00b2", "2 come a 0 1 \u2460", "2 come a \u0660 1 5",
        ):
            self.instead(1, row)
        self.instead(3, "07 go a")
        self.instead(3, "+7 go a")

    def test_names(self):
        for name in ("abcdefghi", "A", "aB", "a1", "1", "", "a-b", "a_b", "\u00e9", "a\u0431", "a.", "~", "\u00df", "a\r"):
            self.instead(1, f"2 come {name} 0 1 5")
            self.instead(3, f"7 go {name}")

    def test_places(self):
        for places in ("0 4", "4 0", "0 24", "0 1000000000", "0 99999999999", "0 0", "3 3", "a 1", "0 b", "-1 0"):
            self.instead(1, f"2 come a {places} 5")
        self.refused("places 1\n0 come a 0 0 0", 1)
        self.refused("places 1\n0 come a 0 1 0", 1)

    def test_weights_and_moments_above_the_greatest(self):
        for number in ("1000000001", "1000000010", "9999999999", "10000000000", "99999999999999999999"):
            self.instead(1, f"2 come a 0 1 {number}")
            self.instead(1, f"{number} come a 0 1 5")
            self.instead(5, f"{number} come abcdefgh 3 2 1")
            self.instead(3, f"{number} go a")

    def test_empty_rows_and_line_ends(self):
        text = text_of(*ROWS)
        self.refused(text + "\n", 6)
        self.refused(text + "\n\n", 6)
        self.refused("\n" + text, 0)
        self.refused("places 4\n", 1)
        self.refused("\n".join(ROWS[:1]) + "\n\n" + "\n".join(ROWS[1:]), 1)
        self.refused("\n".join(ROWS[:3]) + "\n\n" + "\n".join(ROWS[3:]), 3)
        for number in range(1, 6):
            self.instead(number, "")

    def test_other_line_ends(self):
        self.refused("\r\n".join(ROWS), 0)
        self.refused("\r".join(ROWS), 0)
        self.refused(" / ".join(ROWS), 0)
        for end in ("\r", "\x0b", "\x0c", "\x1c", "\x1d", "\x1e", "\x85", "\u2028", "\u2029"):
            self.instead(1, ROWS[1] + end)
            self.instead(1, ROWS[1] + end + ROWS[2])
            self.refused(text_of(*ROWS) + end, 5)

    def test_a_lesser_moment(self):
        self.instead(2, "1 come bb 1 2 0")
        self.instead(3, "1 go a")
        self.instead(4, "6 come a 3 0 12")
        self.instead(5, "6 come abcdefgh 3 2 1")
        # Figures are numbers, not texts.
        self.refused("places 2\n10 come a 0 1 0\n9 go a", 2)
        self.assertEqual(read_history("places 2\n9 come a 0 1 0\n10 go a"), (2, (come(9, "a"), go(10, "a"))))

    def test_a_coming_of_one_that_is_there(self):
        self.instead(2, "2 come a 1 2 0")
        self.instead(5, "8 come bb 3 2 1")
        self.refused("places 2\n1 come a 0 1 0\n1 go a\n1 come a 0 1 0\n1 come a 0 1 0", 4)

    def test_a_going_of_one_that_is_not_there(self):
        self.instead(1, "2 go a")
        self.instead(3, "7 go c")
        self.instead(4, "7 go a")
        self.refused("places 2\n1 go a", 1)
        self.refused("places 2\n1 come a 0 1 0\n1 go a\n1 go a", 3)

    def test_sixty_one_deeds_and_more(self):
        rows = sixty_rows()
        text = text_of("places 2", *rows)
        self.assertEqual(len(read_history(text)[1]), 60)
        for more in ("60 come a 0 1 0", "60 come b 0 1 0\n61 go b", "", "x", "\n", "0 come a 0 1 0", "60 go a", "60 come  a", "\n\n\n"):
            self.refused(text + "\n" + more, 61)
        self.refused(text + "\n60 come b 0 1 0" * 40, 61)
        # A fault ahead of it goes first.
        for number in (1, 30, 60):
            wrong = rows[:number - 1] + ["wrong"] + rows[number:] + ["60 come a 0 1 0"]
            self.refused(text_of("places 2", *wrong), number)
        self.refused(text_of("places 25", *rows, "60 come a 0 1 0"), 0)

    def test_of_several_faults_the_first_one(self):
        self.refused(text_of("places 4", "2 come a 0 1 5", "1 go b", "x", ""), 2)
        self.refused(text_of("places 4", "2 come a 0 1 5", "2 come A 0 1 5", "1 go a"), 2)
        self.refused(text_of("places 4", "x", "2 go a"), 1)
        self.refused(text_of("places 40", "x", "2 go a"), 0)
        self.refused(text_of("places 4", "2 come a 0 1 5", "3 go a", "2 go a", "wrong"), 3)

    def test_each_sign_changed_is_read_as_it_stands_or_refused(self):
        text = text_of(*ROWS)
        for at in range(len(text)):
            for sign in " 0a\nZ/":
                other = text[:at] + sign + text[at + 1:]
                try:
                    told = read_history(other)
                except NoText as error:
                    self.assertLessEqual(error.at, other[:at].count("\n") + 6)
                    self.assertGreaterEqual(error.at, text[:at].count("\n"))
                else:
                    self.assertEqual(show_history(told), other)


if __name__ == "__main__":
    unittest.main()
