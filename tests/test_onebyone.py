"""[17], [12], [4]: deeds done one by one with ties in layers, and asks answered so."""

import unittest

from asked import AGAIN, BRIEF, HISTORY, LIKE, Asked, full_history, ring, some_asks
from joinedever.answering import answers_plainly
from joinedever.byhalves import answers_by_halves
from joinedever.coming import came
from joinedever.going import gone
from joinedever.layers import bare_layers, layers_hold, most_layer, stand_of
from joinedever.onebyone import answers_one_by_one, layers_behind, rises_of
from samples import come, go, is_number, some_histories, some_history, stand_reckoned, stays_as_it_was


def dense_histories():
    """Histories in which ties rise: few places, many ties that come and go."""
    return [some_history(seed, many=(4, 5, 6, 8, 9)[seed % 5], names="abcdefghijklmnop", gap=1) for seed in range(30)]


HISTORIES = some_histories(24) + dense_histories() + [HISTORY, AGAIN, LIKE, BRIEF, full_history(), ring(24, 24)]


def risen(history):
    """For each step the names of the ties that rise, with how many layers."""
    steps = []
    for n in range(len(history[1])):
        ahead = {tie[0]: tie[4] for tie in layers_behind(history, n)[1]}
        behind = {tie[0]: tie[4] for tie in layers_behind(history, n + 1)[1]}
        steps.append({name: behind[name] - ahead[name] for name in ahead if name in behind})
    return steps


class OneByOne(Asked, unittest.TestCase):
    def way(self, history, asks):
        return answers_one_by_one(history, asks)

    def test_all_three_ways_tell_the_same(self):
        for seed, history in enumerate(HISTORIES + some_histories(90)[27:]):
            asks = some_asks(history, seed)
            told = answers_one_by_one(history, asks)
            self.assertEqual(repr(told), repr(answers_plainly(history, asks)))
            self.assertEqual(repr(told), repr(answers_by_halves(history, asks)))


class Behind(unittest.TestCase):
    def test_from_the_stand_without_ties_on(self):
        for history in HISTORIES:
            self.assertEqual(stays_as_it_was(self, layers_behind, history, 0), bare_layers(history[0]))

    def test_each_is_what_is_told_of_the_one_ahead(self):
        for many, deeds in HISTORIES:
            ahead = bare_layers(many)
            for n, deed in enumerate(deeds, 1):
                told = layers_behind((many, deeds), n)
                wanted = came(ahead, deed[2:]) if deed[0] == "come" else gone(ahead, deed[2])[0]
                self.assertEqual(repr(told), repr(wanted))
                ahead = told

    def test_each_is_let_by_and_has_the_stand(self):
        for history in HISTORIES:
            for n in range(len(history[1]) + 1):
                told = layers_behind(history, n)
                self.assertIs(layers_hold(told), True)
                self.assertEqual(stand_of(told), stand_reckoned(history, n))
                self.assertEqual(told, layers_behind(history, n))

    def test_a_beginning_stands_as_the_whole(self):
        for many, deeds in dense_histories()[:5]:
            for n in range(len(deeds) + 1):
                self.assertEqual(layers_behind((many, deeds[:n]), n), layers_behind((many, deeds), n))


class Rises(unittest.TestCase):
    def test_of_no_deeds_and_of_comings_alone(self):
        for many in (1, 2, 24):
            self.assertEqual(rises_of((many, ())), 0)
        self.assertEqual(rises_of(full_history()), 0)
        self.assertEqual(rises_of((4, (come(0, "a", 0, 1), come(0, "b", 1, 2)))), 0)

    def test_by_hand(self):
        # A chain of four places is cut in its middle; the tie of either half rises to layer 1, whichever is taken.
        deeds = (come(0, "a", 0, 1), come(0, "b", 1, 2), come(0, "c", 2, 3), go(1, "b"))
        self.assertEqual(rises_of((4, deeds)), 1)
        # With a second tie beside each of the outer ones both of a half rise.
        deeds = (come(0, "a", 0, 1), come(0, "d", 1, 0), come(0, "b", 1, 2), come(0, "c", 2, 3), come(0, "e", 2, 3), go(1, "b"))
        self.assertEqual(rises_of((4, deeds)), 2)
        # What rose and goes and comes again lies at layer 0 anew, and none of this is a rise.
        deeds += (go(2, "a"), go(2, "d"), go(2, "c"), go(2, "e"), come(3, "a", 0, 1), come(3, "c", 2, 3))
        self.assertEqual(rises_of((4, deeds)), 2)

    def test_the_sum_of_all_steps(self):
        seen = set()
        for history in HISTORIES:
            told = stays_as_it_was(self, rises_of, history)
            self.assertTrue(is_number(told))
            self.assertEqual(told, sum(sum(step.values()) for step in risen(history)))
            self.assertEqual(told, rises_of(history))
            seen.add(told)
        self.assertTrue({0, 1, 2, 3} <= seen)

    def test_at_most_the_comings_times_the_greatest_layer(self):
        for history in HISTORIES:
            comings = len([deed for deed in history[1] if deed[0] == "come"])
            self.assertLessEqual(rises_of(history), comings * most_layer(history[0]))

    def test_in_one_life_at_most_to_the_greatest_layer(self):
        for history in HISTORIES:
            many, deeds = history
            so_far = {}
            for deed, step in zip(deeds, risen(history)):
                for name, layers in step.items():
                    self.assertGreaterEqual(layers, 0)
                    so_far[name] = so_far.get(name, 0) + layers
                    self.assertLessEqual(so_far[name], most_layer(many))
                if deed[0] == "go":
                    so_far.pop(deed[2], None)


if __name__ == "__main__":
    unittest.main()
