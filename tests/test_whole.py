"""[4], [1]: the promise over the whole program, module against module."""

import itertools
import unittest

from asked import AGAIN, BRIEF, HISTORY, LIKE, all_asks, full_history, ring, some_asks
from joinedever.answering import answers_plainly
from joinedever.byhalves import answers_by_halves
from joinedever.desk import Desk
from joinedever.evenness import even_behind, even_spans, first_odd
from joinedever.going import gone
from joinedever.goingcheck import going_holds
from joinedever.histories import right_history
from joinedever.joinings import first_joined, how_long, joined_spans, last_joined, longest_pair
from joinedever.layers import layers_hold, most_layer, stand_of
from joinedever.lightcheck import cuts_hold, rings_hold
from joinedever.lightest import lightest
from joinedever.lightkept import lights_of
from joinedever.lightpapers import cuts_for, rings_for
from joinedever.lives import lives_of
from joinedever.onebyone import answers_one_by_one, layers_behind, rises_of
from joinedever.papers import is_paper, paper_for
from joinedever.sides import sides_hold, sides_of
from joinedever.spans import common_spans, has_moment, joint_spans, length_below, other_spans
from joinedever.stands import deeds_by, stand_at, stand_behind
from joinedever.takes import Takes
from joinedever.texts import read_history, show_history
from joinedever.through import hold_through, papers_through
from joinedever.walking import are_joined, part_of, parts_of
from joinedever.ways import cut_between, way_between
from samples import MOST, moments_of, some_histories, some_history

SMALL = [HISTORY, AGAIN, LIKE, (1, ()), (2, ())] + [
    some_history(seed, many=2 + seed % 5, deeds=(7, 16, 24)[seed % 3], names="abcdefgh", gap=seed % 4) for seed in range(18)
]
GREAT = [BRIEF, full_history(), ring(24, 23), (24, ())] + some_histories(24) + [
    some_history(seed, many=(5, 9, 24)[seed % 3], names="abcdefghijklmnopqrst", gap=2) for seed in range(12)
]


def desk_of(history):
    """A desk that was told a history, and then the last moment."""
    many, deeds = history
    desk = Desk(many)
    for deed in deeds:
        desk.say(f"at {deed[1]}")
        desk.say(" ".join(str(part) for part in deed[:1] + deed[2:]))
    desk.say(f"at {MOST}")
    return desk


class ThreeWays(unittest.TestCase):
    def alike(self, history, asks):
        told = answers_plainly(history, asks)
        self.assertEqual(repr(answers_by_halves(history, asks)), repr(told))
        self.assertEqual(repr(answers_one_by_one(history, asks)), repr(told))

    def test_all_asks_of_small_histories(self):
        for history in SMALL:
            self.alike(history, all_asks(history))

    def test_sixty_asks_of_great_ones(self):
        for seed, history in enumerate(GREAT):
            self.alike(history, some_asks(history, seed))
            self.alike(history, some_asks(history, seed + 1000))


class Joined(unittest.TestCase):
    def at_each_moment(self, history, pairs, moments):
        many = history[0]
        desk = desk_of(history)
        for one, other in pairs:
            spans = joined_spans(history, one, other)
            numbers = [deeds_by(history, moment) for moment in moments]
            asks = tuple(("joined", n, one, other) for n in numbers)
            answers = [way(history, asks) for way in (answers_plainly, answers_by_halves, answers_one_by_one)]
            for at, moment in enumerate(moments):
                truth = are_joined(many, stand_at(history, moment), one, other)
                self.assertEqual([row[at] for row in answers], [truth] * 3)
                self.assertEqual(desk.say(f"was {one} {other} {moment}"), "yes" if truth else "no")
                self.assertIs(has_moment(spans, moment), truth)
                paper = paper_for(history, numbers[at], one, other)
                self.assertEqual(paper[0], "joined" if truth else "parted")
                self.assertIs(is_paper(history, numbers[at], one, other, paper), True)

    def test_each_two_places_of_small_histories(self):
        for history in SMALL:
            self.at_each_moment(history, list(itertools.product(range(history[0]), repeat=2)), moments_of(history))

    def test_some_of_great_ones(self):
        for seed, history in enumerate(GREAT):
            many = history[0]
            pairs = [((seed + 5 * k) % many, (3 * seed + 7 * k) % many) for k in range(4)]
            self.at_each_moment(history, pairs, moments_of(history)[::3])

    def test_parts_ways_and_cuts(self):
        for history in SMALL:
            many, deeds = history
            for n in range(len(deeds) + 1):
                stand = stand_behind(history, n)
                parts = parts_of(many, stand)
                for one, other in itertools.product(range(many), repeat=2):
                    truth = any(one in part and other in part for part in parts)
                    self.assertIs(other in part_of(many, stand, one), truth)
                    self.assertIs(way_between(many, stand, one, other) is not None, truth)
                    self.assertIs(cut_between(many, stand, one, other) is None, truth)

    def test_all_moments_once(self):
        for history in SMALL + GREAT[:12]:
            many = history[0]
            for one, other in ((0, 0), (0, many - 1), (many // 2, 0)):
                joined = joined_spans(history, one, other)
                parted = other_spans(joined)
                self.assertEqual(joint_spans(joined, parted), ((0, None),))
                self.assertEqual(common_spans(joined, parted), ())
                for end in moments_of(history):
                    self.assertEqual(how_long(history, one, other, end) + length_below(parted, end), end)

    def test_papers_through_all_moments(self):
        for seed, history in enumerate(SMALL + GREAT):
            many = history[0]
            for one, other in ((0, 0), (0, many - 1), (seed % many, (7 * seed + 1) % many)):
                told = papers_through(history, one, other, 0, MOST)
                self.assertIs(hold_through(history, one, other, 0, MOST, told), True)
                spans = joined_spans(history, one, other)
                joined = sum(stop - start for start, stop, paper in told if paper[0] == "joined")
                self.assertEqual(joined, length_below(spans, MOST))
                self.assertTrue(all(has_moment(spans, start) == (paper[0] == "joined") for start, stop, paper in told))

    def test_first_last_and_longest(self):
        for history in SMALL:
            many = history[0]
            for one, other in itertools.combinations(range(many), 2):
                spans = joined_spans(history, one, other)
                self.assertEqual(first_joined(history, one, other), spans[0][0] if spans else None)
                last = last_joined(history, one, other, MOST)
                self.assertIs(last is None, length_below(spans, MOST) == 0)
            pair = longest_pair(history, MOST)
            if pair is not None:
                desk = desk_of(history)
                longs = [int(desk.say(f"long {one} {other}")) for one, other in itertools.combinations(range(many), 2)]
                self.assertEqual(how_long(history, pair[0], pair[1], MOST), max(longs))


class Kept(unittest.TestCase):
    def test_layered_stands(self):
        for history in SMALL + GREAT:
            many, deeds = history
            for n in range(len(deeds) + 1):
                layers = layers_behind(history, n)
                self.assertIs(layers_hold(layers), True)
                self.assertEqual(stand_of(layers), stand_behind(history, n))
                self.assertTrue(all(row[4] <= most_layer(many) for row in layers[1]))
                if n < len(deeds) and deeds[n][0] == "go":
                    told = gone(layers, deeds[n][2])
                    self.assertIs(going_holds(layers, deeds[n][2], told), True)
                    self.assertEqual(layers_behind(history, n + 1), told[0])
            comings = len(lives_of(history))
            self.assertLessEqual(rises_of(history), comings * most_layer(many))

    def test_lightest_forests(self):
        for history in SMALL + GREAT:
            many, deeds = history
            for n, forest in enumerate(lights_of(history)):
                stand = stand_behind(history, n)
                self.assertEqual(forest, lightest(many, stand))
                if n % 5 == len(deeds) % 5:
                    self.assertIs(rings_hold(many, stand, forest, rings_for(many, stand)), True)
                    self.assertIs(cuts_hold(many, stand, forest, cuts_for(many, stand)), True)

    def test_sides(self):
        for history in SMALL + GREAT:
            many, deeds = history
            truths = even_behind(history)
            asks = tuple(("even", n) for n in range(len(deeds) + 1))
            for way in (answers_plainly, answers_by_halves, answers_one_by_one):
                self.assertEqual(way(history, asks), truths)
            for n, truth in enumerate(truths):
                told = sides_of(many, stand_behind(history, n))
                self.assertEqual(told[0], "sides" if truth else "ring")
                self.assertIs(sides_hold(many, stand_behind(history, n), told), True)
            spans = even_spans(history)
            for moment in moments_of(history):
                self.assertIs(has_moment(spans, moment), truths[deeds_by(history, moment)])
            self.assertEqual(first_odd(history), truths.index(False) if False in truths else None)

    def test_joins_of_stands_taken_back(self):
        for history in SMALL + GREAT:
            many, deeds = history
            takes = Takes(many)
            bare = takes.shown()
            for n in range(len(deeds) + 1):
                stand = stand_behind(history, n)
                for tie in stand:
                    takes.join(tie[1], tie[2])
                self.assertEqual(takes.parts(), len(parts_of(many, stand)))
                self.assertIs(takes.odd() == 0, sides_of(many, stand)[0] == "sides")
                if takes.odd() == 0:
                    # The sides of a Takes begin anyhow, and a reader of sides lets them by.
                    self.assertIs(sides_hold(many, stand, ("sides", takes.shown()[1])), True)
                takes.back(0)
                self.assertEqual(takes.shown(), bare)


class Rows(unittest.TestCase):
    def test_desk_and_texts(self):
        for history in SMALL + GREAT:
            desk = desk_of(history)
            self.assertEqual(desk.history(), history)
            self.assertIs(right_history(desk.history()), True)
            self.assertEqual(desk.say("show").split(" / "), show_history(history).split("\n"))
            self.assertEqual(read_history(show_history(desk.history())), history)
            many, deeds = history
            stand = stand_behind(history, len(deeds))
            self.assertEqual(desk.say("forest"), " ".join(lights_of(history)[-1]) or "-")
            self.assertEqual(desk.say("sides"), "even" if even_behind(history)[-1] else "odd")
            self.assertEqual(desk.say("parts"), str(answers_by_halves(history, (("parts", len(deeds)),))[0]))
            for place in range(many):
                way = way_between(many, stand, 0, place)
                self.assertEqual(desk.say(f"way 0 {place}"), "-" if way is None else " ".join(way) or "=")
                self.assertEqual(desk.say(f"size {place}"), str(answers_one_by_one(history, (("size", len(deeds), place),))[0]))


if __name__ == "__main__":
    unittest.main()
