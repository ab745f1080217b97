"""The interface: each name is defined in its own file, with its parameters; classes have their methods themselves."""

import importlib
import inspect
import unittest

FUNCTIONS = {
    "looms": {"is_treadling": "loom thing"},
    "cloths": {"woven": "loom treadling", "strands": "cloth", "is_over": "cloth one other", "does_lead": "cloth one other",
               "turned_at": "cloth crossings"},
    "levels": {"does_hold": "cloth", "levels_of": "cloth", "level_of": "cloth strand", "judge_holding": "cloth",
               "holding_holds": "cloth thing"},
    "byletters": {"letter_levels": "loom letters", "do_hold": "loom letters", "letters_of": "treadling"},
    "charts": {"has_treadling": "chart thing", "useful_states": "chart", "first_treadling": "chart",
               "many_treadlings": "chart length", "longest_treadling": "chart", "treadlings_of": "chart length"},
    "chartpapers": {"are_alike": "one other", "first_parting": "one other", "judge_alike": "one other",
                    "alike_holds": "one other thing", "least_chart": "chart", "is_least_chart": "chart"},
    "joining": {"both": "one other", "either": "one other", "without": "one other", "one_behind": "one other", "again": "chart",
                "backward": "chart", "is_part": "one other", "alone": "letters word"},
    "scripts": {"is_script": "thing", "check_script": "text", "chart_of": "script letters", "script_of": "chart",
                "loop_depth": "script", "reversed_script": "script"},
    "elements": {"element_of": "loom treadling", "joined_capped": "loom one other top"},
    "rolls": {"is_roll": "loom thing", "picks_of": "loom roll", "treadle_at": "loom roll place", "stretch": "loom roll start end",
              "element_of_roll": "loom roll", "treadling_of": "loom roll * most", "first_pick_apart": "loom one other",
              "text_of_roll": "loom roll", "roll_read": "loom text"},
}
CLASSES = {
    ("looms", "Loom"): {"__init__": "self shafts threading lifts", "__len__": "self", "__eq__": "self other", "__str__": "self",
                        "read": "cls text", "lift_of": "self letter", "with_lift": "self letter lift", "threaded": "self threading"},
    ("cloths", "Cloth"): {"__init__": "self picks", "__len__": "self", "__eq__": "self other", "__str__": "self", "read": "cls text"},
    ("charts", "Chart"): {"__init__": "self letters states moves ends", "__len__": "self", "__eq__": "self other", "__str__": "self",
                          "read": "cls text", "led": "self state word"},
    ("elements", "Element"): {"__add__": "self other", "__eq__": "self other", "times": "self many", "cut_off": "self top"},
    ("beams", "Beam"): {"__init__": "self loom roll", "change": "self start end roll", "undo": "self",
                        "element_from": "self start end"},
}
PROPERTIES = {("elements", "Element"): ["holds", "longest_float"],
              ("beams", "Beam"): ["roll_now", "element_now", "holds_now", "picks_now"]}


def parameters(function):
    """The names of the parameters; a star stands ahead of those that are passed by name alone."""
    words = []
    for parameter in inspect.signature(function).parameters.values():
        if parameter.kind is parameter.KEYWORD_ONLY and "*" not in words:
            words.append("*")
        words.append(parameter.name)
    return " ".join(words)


class InterfaceTest(unittest.TestCase):

    def test_functions(self):
        for stem, row in FUNCTIONS.items():
            module = importlib.import_module("loomhold." + stem)
            for name, told in row.items():
                function = getattr(module, name)
                self.assertEqual(function.__module__, module.__name__)
                self.assertEqual(parameters(function), told, name)

    def test_classes(self):
        for (stem, name), row in CLASSES.items():
            made = getattr(importlib.import_module("loomhold." + stem), name)
            self.assertEqual(made.__module__, "loomhold." + stem)
            self.assertEqual(made.__bases__, (object,))
            for method, told in row.items():
                function = vars(made)[method]
                function = function.__func__ if isinstance(function, classmethod) else function
                self.assertEqual(parameters(function), told, name + "." + method)

    def test_properties(self):
        for (stem, name), row in PROPERTIES.items():
            made = getattr(importlib.import_module("loomhold." + stem), name)
            for word in row:
                self.assertIsInstance(vars(made)[word], property)


if __name__ == "__main__":
    unittest.main()
