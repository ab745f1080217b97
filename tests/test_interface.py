"""The interface: each name is defined in its own file, with its parameters; classes have their methods themselves."""

import importlib
import inspect
import unittest

FUNCTIONS = {
    "looms": {"is_treadling": "loom thing"},
    "cloths": {"woven": "loom treadling", "strands": "cloth", "is_over": "cloth one other", "does_lead": "cloth one other",
               "turned_at": "cloth crossings"},
    "levels": {"does_hold": "cloth", "levels_of": "cloth", "level_of": "cloth strand", "judge_holding": "cloth",
               "holding_holds": "cloth thing"},
    "byletters": {"letter_levels": "loom letters", "do_hold": "loom letters", "letters_of": "treadling"},
    "charts": {"has_treadling": "chart thing", "useful_states": "chart", "first_treadling": "chart",
               "many_treadlings": "chart length", "longest_treadling": "chart", "treadlings_of": "chart length"},
    "chartpapers": {"are_alike": "one other", "first_parting": "one other", "judge_alike": "one other",
                    "alike_holds": "one other thing", "least_chart": "chart", "is_least_chart": "chart"},
    "joining": {"both": "one other", "either": "one other", "without": "one other", "one_behind": "one other", "again": "chart",
                "backward": "chart", "is_part": "one other", "alone": "letters word"},
    "scripts": {"is_script": "thing", "check_script": "text", "chart_of": "script letters", "script_of": "chart",
                "loop_depth": "script", "reversed_script": "script"},
    "elements": {"element_of": "loom treadling", "joined_capped": "loom one other top"},
    "rolls": {"is_roll": "loom thing", "picks_of": "loom roll", "treadle_at": "loom roll place", "stretch": "loom roll start end",
              "element_of_roll": "loom roll", "treadling_of": "loom roll * most", "first_pick_apart": "loom one other",
              "text_of_roll": "loom roll", "roll_read": "loom text"},
    "holding": {"spots_met": "loom chart", "do_all_hold": "loom chart", "first_fall": "loom chart", "many_falls": "loom chart length",
                "falling_chart": "loom chart"},
    "holdpapers": {"judge_chart": "loom chart", "chart_holds": "loom chart thing", "lasts_from": "loom chart", "last_fall": "loom chart",
                   "judge_lasting": "loom chart", "lasting_holds": "loom chart thing"},
    "grips": {"grip": "loom chart", "first_slip": "loom chart length", "judge_grip": "loom chart", "grip_holds": "loom chart thing"},
    "floats": {"side_at": "loom letter shaft", "greatest_float": "loom chart", "floating_treadling": "loom chart",
               "first_longest": "loom roll", "weft_float": "loom letter", "greatest_weft_float": "loom chart",
               "weft_float_of_roll": "loom roll", "keeps_within": "loom chart number"},
    "floatpapers": {"judge_floats": "loom chart", "floats_hold": "loom chart thing", "judge_within": "loom chart number",
                    "within_holds": "loom chart number thing"},
    "playpapers": {"judge_play": "loom wishes sight number", "play_holds": "loom wishes sight number thing",
                   "can_keep": "loom wishes sight number", "least_kept": "loom wishes sight most", "runs_behind": "loom runs letter"},
    "treadlers": {"trodden_for": "loom wishes sight number calls"},
    "pictures": {"is_whole": "picture", "are_stripes": "picture thing", "are_terms": "picture thing", "face": "cloth stripes",
                 "back": "cloth stripes", "does_show": "picture cloth stripes", "first_unshown": "picture stripes",
                 "do_keep": "picture stripes terms"},
    "clauses": {"does_make": "picture one other * terms", "judge_stripes": "picture * terms", "stripes_hold": "picture thing * terms",
                "forced": "picture * terms", "why_forced": "picture strand * terms", "forced_holds": "picture thing * terms"},
    "stripes": {"first_stripes": "picture * terms", "all_stripes": "picture * terms", "many_stripes": "picture * terms most",
                "back_by": "picture stripes", "stripes_by": "one other"},
    "motions": {"is_motion": "thing", "behind": "one other", "back_of": "motion", "moved": "cloth motion",
                "strand_led": "cloth motion strand"},
    "patterns": {"ground": "cloth", "do_show_one": "cloth other", "first_form": "cloth", "keeps": "cloth motion", "keepers": "cloth",
                 "motion_to": "cloth other", "judge_same": "cloth other", "same_holds": "cloth other thing", "strand_classes": "cloth",
                 "judge_strands": "cloth", "strands_hold": "cloth thing", "are_all_alike": "cloth"},
    "patterncounts": {"is_group": "thing", "group_of": "turns", "number_of_kinds": "picks ends turns",
                      "representatives": "picks ends turns", "with_periods": "picks ends"},
    "growing": {"generation": "growth n * most", "picks_at": "growth n", "letters_at": "growth n", "picks_modulo": "growth n modulus",
                "does_lead_on": "growth", "does_grow": "growth", "treadle_in": "growth n place",
                "stretch_in": "growth n start end * most", "element_at": "growth n", "element_in": "growth n start end"},
    "generations": {"map_at": "growth n top", "map_round": "growth top * most", "does_hold_at": "growth n * most",
                    "is_within_at": "growth n d * most", "holding_row": "growth * most", "float_row": "growth d * most",
                    "first_fallen": "growth * most", "first_held": "growth * most", "first_float_above": "growth d * most",
                    "judge_generations": "growth * most", "judge_grown_floats": "growth d * most", "generations_hold": "growth thing",
                    "grown_floats_hold": "growth d thing"},
    "mending": {"is_mend": "cloth thing", "fewest_turns": "cloth", "mend": "cloth", "mended": "cloth", "is_free_lot": "cloth thing",
                "border": "cloth lot", "judge_mend": "cloth", "mend_holds": "cloth thing"},
    "pegs": {"pegs_of": "loom", "is_pegs": "loom thing", "turned_loom": "loom pegs", "do_bind": "loom chart pegs * late",
             "refusal": "loom chart pegs * late", "refusal_holds": "loom chart pegs thing * late",
             "fewest_pegs": "loom chart * late most", "judge_pegs": "loom chart * late most",
             "pegs_hold": "loom chart thing * late most"},
    "drafts": {"end_kinds": "cloth", "pick_kinds": "cloth", "fewest_shafts": "cloth", "fewest_treadles": "cloth",
               "least_draft": "cloth", "is_draft_of": "cloth thing", "unlike_paper": "cloth", "unlike_holds": "cloth thing",
               "first_crossing": "one other", "reduced": "loom", "is_reduced": "loom", "led_treadling": "loom treadling"},
    "pressing": {"are_presses": "loom thing", "woven_pressed": "loom presses", "is_bar": "cloth thing", "do_cover": "cloth thing",
                 "fewest_bars": "cloth", "bars_of": "cloth", "bars_by": "loom presses", "are_apart": "cloth one other",
                 "most_apart": "cloth", "apart_holds": "cloth thing", "pressed_draft": "cloth"},
    "shelves": {"is_of_loom": "loom chart", "does_take": "loom chart roll", "is_promise": "thing", "does_keep": "loom chart promise",
                "first_broken": "loom chart promises", "first_other": "loom other rolls"},
    "findings": {"finding_holds": "thing"},
    "showing": {"free_crossings": "picture stripes", "cloth_by": "picture stripes", "can_hold": "picture stripes",
                "judge_showing": "picture stripes", "showing_holds": "picture stripes thing"},
}
DEFAULTS = {"treadling_of": {"most": 2000}, "does_make": {"terms": ()}, "judge_stripes": {"terms": ()}, "stripes_hold": {"terms": ()},
            "forced": {"terms": ()}, "why_forced": {"terms": ()}, "forced_holds": {"terms": ()}, "first_stripes": {"terms": ()},
            "all_stripes": {"terms": ()}, "many_stripes": {"terms": (), "most": 1000},
            **{name: {"most": 2000} for name in (
                "generation", "stretch_in", "map_round", "does_hold_at", "is_within_at", "holding_row", "float_row", "first_fallen",
                "first_held", "first_float_above", "judge_generations", "judge_grown_floats")},
            **{name: {"late": False} for name in ("do_bind", "refusal", "refusal_holds")},
            **{name: {"late": False, "most": 2} for name in ("fewest_pegs", "judge_pegs", "pegs_hold")}}
CLASSES = {
    ("looms", "Loom"): {"__init__": "self shafts threading lifts", "__len__": "self", "__eq__": "self other", "__str__": "self",
                        "read": "cls text", "lift_of": "self letter", "with_lift": "self letter lift", "threaded": "self threading"},
    ("cloths", "Cloth"): {"__init__": "self picks", "__len__": "self", "__eq__": "self other", "__str__": "self", "read": "cls text"},
    ("charts", "Chart"): {"__init__": "self letters states moves ends", "__len__": "self", "__eq__": "self other", "__str__": "self",
                          "read": "cls text", "led": "self state word"},
    ("elements", "Element"): {"__add__": "self other", "__eq__": "self other", "times": "self many", "cut_off": "self top"},
    ("beams", "Beam"): {"__init__": "self loom roll", "change": "self start end roll", "undo": "self",
                        "element_from": "self start end"},
    ("treadlers", "Treadler"): {"__init__": "self loom wishes sight number", "__len__": "self", "hear": "self call", "undo": "self"},
    ("callers", "Caller"): {"__init__": "self loom wishes sight number", "__len__": "self", "answer": "self letter", "undo": "self"},
    ("growing", "Growth"): {"__init__": "self loom start rules", "__eq__": "self other", "__str__": "self", "read": "cls text",
                            "rule_of": "self letter", "next_of": "self treadling"},
    ("houses", "House"): {"__init__": "self", "__len__": "self", "__contains__": "self name", "editions": "self name",
                          "promises": "self name", "log": "self name", "loom_now": "self name", "chart_now": "self name",
                          "found": "self name loom chart promises", "add_promise": "self name promise",
                          "bring": "self name loom chart", "weave": "self name roll", "drop": "self name", "undo": "self",
                          "redo": "self", "tried": "self action"},
    ("console", "Console"): {"__init__": "self", "run": "self command"},
    ("pictures", "Picture"): {"__init__": "self rows", "__len__": "self", "__eq__": "self other", "__str__": "self", "read": "cls text"},
}
PROPERTIES = {("elements", "Element"): ["holds", "longest_float"],
              ("houses", "House"): ["names"],
              ("beams", "Beam"): ["roll_now", "element_now", "holds_now", "picks_now"],
              ("treadlers", "Treadler"): ["calls_made", "trodden", "runs_now"],
              ("callers", "Caller"): ["calls_made", "trodden", "runs_now", "is_broken"]}


def parameters(function):
    """The names of the parameters; a star stands ahead of those that are passed by name alone."""
    words = []
    for parameter in inspect.signature(function).parameters.values():
        if parameter.kind is parameter.KEYWORD_ONLY and "*" not in words:
            words.append("*")
        words.append(parameter.name)
    return " ".join(words)


class InterfaceTest(unittest.TestCase):

    def test_functions(self):
        for stem, row in FUNCTIONS.items():
            module = importlib.import_module("loomhold." + stem)
            for name, told in row.items():
                function = getattr(module, name)
                self.assertEqual(function.__module__, module.__name__)
                self.assertEqual(parameters(function), told, name)
                row = inspect.signature(function).parameters.values()
                defaults = {parameter.name: parameter.default for parameter in row if parameter.default is not parameter.empty}
                self.assertEqual(defaults, DEFAULTS.get(name, {}), name)

    def test_classes(self):
        for (stem, name), row in CLASSES.items():
            made = getattr(importlib.import_module("loomhold." + stem), name)
            self.assertEqual(made.__module__, "loomhold." + stem)
            self.assertEqual(made.__bases__, (object,))
            for method, told in row.items():
                function = vars(made)[method]
                function = function.__func__ if isinstance(function, classmethod) else function
                self.assertEqual(parameters(function), told, name + "." + method)

    def test_properties(self):
        for (stem, name), row in PROPERTIES.items():
            made = getattr(importlib.import_module("loomhold." + stem), name)
            for word in row:
                self.assertIsInstance(vars(made)[word], property)


if __name__ == "__main__":
    unittest.main()
