"""The interface: the names, the arguments, and what is handed by place or by name."""

import importlib
import inspect
import unittest

# Of each function: what is handed by place, then behind a star what may be left out.
INTERFACE = {
    "rows": {
        "is_thing": "thing", "is_row": "thing", "asks_in": "row", "ask_at": "row place",
        "things_of": "row", "last_of": "row", "often": "row",
        "asked_ahead": "row thing place", "so_manieth": "row thing number",
        "asked_before": "row place", "halves": "row place", "near": "row",
    },
    "clerks": {
        "is_standing": "drawers thing * graces",
        "walk": "row drawers * graces standing",
        "misses": "row drawers * graces standing",
        "behind": "row drawers * graces standing",
        "asked": "drawers standing thing * graces",
        "losses": "row drawers * graces standing",
        "lying": "drawers standing * graces",
        "reason": "row drawers place * graces standing",
        "are_misses": "row drawers thing * graces standing",
    },
    "depths": {
        "depths": "row * graces", "missed_by": "row * graces",
        "drawers_for": "row most * graces", "drawers_to_hit": "row places * graces",
        "thinned": "row * graces", "nearest_again": "row drawers * graces",
    },
    "judge_depths": {
        "depth_fault": "row thing * graces",
        "misses_shown": "row drawers place thing * graces",
        "hits_shown": "row drawers place thing * graces",
    },
    "papers": {
        "why_missed": "row drawers place * graces", "why_hit": "row drawers place * graces",
    },
    "shelf": {
        "shelf": "row", "held": "row drawers", "marks": "row", "sizes": "row drawers",
        "most_held": "row drawers", "stays": "row drawers", "fits": "row places",
    },
    "plain": {
        "plain_depths": "row", "plain_misses": "row places", "spared": "row drawers",
        "like_places": "row drawers",
    },
    "graces": {
        "is_kinder": "graces other", "helped": "row drawers graces other",
        "like_drawers": "row drawers graces", "by_grace": "row drawers thing * graces",
        "least_graces": "row drawers wish * graces", "least_paper": "row drawers wish * graces",
        "is_least_paper": "row drawers wish thing * graces",
        "graces_of": "row drawers places", "graces_barred": "row drawers places",
    },
    "starts": {
        "is_younger": "drawers one other * graces",
        "unlike_asks": "row drawers one other * graces", "met": "row drawers one other * graces",
        "younger_of": "drawers one other * graces", "elder_of": "drawers one other * graces",
        "how_many_between": "drawers one other * graces",
        "row_to": "drawers start", "comes_to": "row drawers start",
        "all_met": "row drawers things * graces", "more_missed": "row drawers one other * graces",
    },
    "edits": {
        "put_in": "row place thing * graces", "left_out": "row place * graces",
        "exchanged": "row place * graces", "put_away": "row place thing * graces",
        "best_put_in": "row drawers * graces",
    },
    "reminders": {
        "kept_walk": "row drawers wished * graces", "gaps": "row drawers wished * graces",
        "needs": "row drawers wished * graces", "fewest": "row drawers wished * graces",
        "lazy": "row drawers wished * graces", "wanted": "row drawers wished * graces",
        "drawers_for_few": "row wished most * graces",
    },
    "judge_reminders": {
        "holds": "row drawers wished thing * graces", "shows_wanted": "row drawers wished thing * graces",
    },
    "far": {
        "behind_far": "row drawers * graces standing",
        "misses_ahead": "row drawers place * graces standing",
        "hits_at": "row drawers place * graces standing",
        "nth_miss": "row drawers number * graces standing",
        "depth_at": "row place", "missed_far": "row", "stands": "row drawers", "depth_at_last": "row place",
    },
    "loops": {
        "is_steady": "row drawers thing", "steady_standing": "row drawers places",
        "greatest_steady": "row drawers", "all_steady": "row drawers",
        "steady_from": "row drawers * standing", "are_steady": "row thing", "all_depths": "row",
    },
    "live": {"clerk_of": "drawers history * graces standing"},
    "told_back": {"row_with": "depths"},
    "texts": {
        "show_row": "row", "show_standing": "standing", "show_graces": "graces", "show_depths": "depths",
        "show_history": "history", "read_row": "text", "read_standing": "text", "read_graces": "text",
        "read_depths": "text", "read_history": "text",
    },
}

# Of each class: what it is made of, and of each of its methods what this is handed.
CLASSES = {
    ("live", "Clerk"): ("drawers * graces standing", {
        "ask": "thing", "ask_row": "row", "put_away": "thing", "more": "", "fewer": "", "grace": "thing by",
        "drawers": "", "asked": "", "missed": "", "graces": "", "standing": "", "age": "thing", "back": "",
        "again": "", "history": "", "twin": "", "__eq__": "other", "__len__": "",
    }),
    ("live", "Watch"): ("", {
        "add": "name clerk", "leave": "name", "back": "", "ask": "thing", "names": "", "ask_row": "row",
        "clerk": "name", "is_over": "one other", "overs": "", "apart": "one other row", "lacking": "one other",
    }),
    ("ladder", "Ladder"): ("", {
        "ask": "thing", "put_away": "thing", "back": "", "shelf": "", "held": "drawers", "standing": "drawers",
        "steps": "", "history": "", "missed": "drawers", "twin": "", "__eq__": "other", "__len__": "",
    }),
    ("desk", "Desk"): ("", {"say": "text"}),
}


def told_of(function):
    """The arguments as the table above has them; a default is None or none at all."""
    words = []
    for one in inspect.signature(function).parameters.values():
        if one.kind == one.KEYWORD_ONLY:
            if "*" not in words:
                words.append("*")
            if one.default is not None:
                return "a default that is not told"
        elif one.kind != one.POSITIONAL_OR_KEYWORD or one.default is not one.empty:
            return "an argument that is not told"
        words.append(one.name)
    return " ".join(words)


class TestInterface(unittest.TestCase):
    def test_names_and_arguments(self):
        for module, functions in INTERFACE.items():
            file = importlib.import_module("missclock." + module)
            for name, words in functions.items():
                function = getattr(file, name)
                self.assertEqual(function.__module__, "missclock." + module)
                self.assertEqual(told_of(function), words, name)

    def test_classes_and_methods(self):
        for (module, name), (made_of, methods) in CLASSES.items():
            kind = getattr(importlib.import_module("missclock." + module), name)
            self.assertEqual(kind.__module__, "missclock." + module)
            self.assertEqual(kind.__bases__, (object,))
            self.assertEqual(told_of(kind), made_of)
            for method, words in methods.items():
                # Each stands in the class itself; the first argument is its own object.
                self.assertEqual(told_of(vars(kind)[method]), ("self " + words).strip(), method)


if __name__ == "__main__":
    unittest.main()
