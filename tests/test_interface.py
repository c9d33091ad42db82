"""All that the interface of the document names is there, with as many arguments as are told."""

import importlib
import inspect
import unittest

FUNCTIONS = """
histories is_name 1, right_history 1
stands deeds_by 2, stand_behind 2, stand_at 2
walking are_joined 4, part_of 3, parts_of 2
lives lives_of 1, there_spans 2
spans is_spans 1, has_moment 2, common_spans 2, joint_spans 2, other_spans 1, length_below 2
halves pieces_of 3
answering answers_plainly 2
byhalves answers_by_halves 2
layers layers_hold 1, most_layer 1, bare_layers 1, stand_of 1
coming came 2
going gone 2
goingcheck going_holds 3
onebyone layers_behind 2, answers_one_by_one 2, rises_of 1
lightest is_ahead 2, lightest 2
lightpapers rings_for 2, cuts_for 2
lightcheck rings_hold 4, cuts_hold 4
lightkept light_came 4, light_gone 4, lights_of 1
sides sides_of 2, sides_hold 3
evenness even_behind 1, even_spans 1, first_odd 1
ways way_between 4, cut_between 4
papers paper_for 4, is_paper 5
through papers_through 5, hold_through 6
joinings joined_spans 3, first_joined 3, last_joined 4, how_long 4, longest_pair 2
texts show_history 1, read_history 1
"""
METHODS = {
    ("takes", "Takes"): "join 2, top 1, side 1, size 1, parts 0, odd 0, joins 0, shown 0, back 1",
    ("desk", "Desk"): "say 1, history 0",
}


def named(text):
    """Pairs of a name and a number."""
    return [(row.split()[0], int(row.split()[1])) for row in text.split(",")]


class Interface(unittest.TestCase):
    def takes(self, thing, how_many):
        """It takes so many arguments by their places."""
        inspect.signature(thing).bind(*range(how_many))
        for wrong in (how_many - 1, how_many + 1):
            if wrong >= 0:
                with self.assertRaises(TypeError):
                    inspect.signature(thing).bind(*range(wrong))

    def test_functions(self):
        for line in FUNCTIONS.strip().split("\n"):
            module, rest = line.split(" ", 1)
            for name, how_many in named(rest):
                with self.subTest(module=module, name=name):
                    self.takes(getattr(importlib.import_module("joinedever." + module), name), how_many)

    def test_classes(self):
        for (module, name), methods in METHODS.items():
            kind = getattr(importlib.import_module("joinedever." + module), name)
            self.takes(kind, 1)
            for method, how_many in named(methods):
                with self.subTest(name=name, method=method):
                    self.takes(getattr(kind(3), method), how_many)

    def test_refusals(self):
        errors = importlib.import_module("joinedever.errors")
        for name, fields in (("NoHistory", ("number", "word")), ("NoDeed", ("word",)), ("NoMark", ("thing",)), ("NoText", ("at",))):
            made = getattr(errors, name)(*range(len(fields)))
            self.assertEqual([getattr(made, field) for field in fields], list(range(len(fields))))
        self.assertIsInstance(errors.NoRow("a"), errors.TieError)


if __name__ == "__main__":
    unittest.main()
