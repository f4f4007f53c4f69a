"""The interface: the names, the arguments, and what is handed by place or by name."""

import importlib
import inspect
import unittest

# Of each function: what is handed by place, then behind a star what may be left out.
INTERFACE = {
    "rows": {
        "is_thing": "thing", "is_row": "thing", "asks_in": "row", "ask_at": "row place",
        "things_of": "row", "last_of": "row", "often": "row",
        "asked_ahead": "row thing place", "so_manieth": "row thing number",
        "asked_before": "row place", "halves": "row place", "near": "row",
    },
    "clerks": {
        "is_standing": "drawers thing * graces",
        "walk": "row drawers * graces standing",
        "misses": "row drawers * graces standing",
        "behind": "row drawers * graces standing",
        "asked": "drawers standing thing * graces",
        "losses": "row drawers * graces standing",
        "lying": "drawers standing * graces",
        "reason": "row drawers place * graces standing",
        "are_misses": "row drawers thing * graces standing",
    },
    "depths": {
        "depths": "row * graces", "missed_by": "row * graces",
        "drawers_for": "row most * graces", "drawers_to_hit": "row places * graces",
        "thinned": "row * graces", "nearest_again": "row drawers * graces",
    },
    "judge_depths": {
        "depth_fault": "row thing * graces",
        "misses_shown": "row drawers place thing * graces",
        "hits_shown": "row drawers place thing * graces",
    },
    "papers": {
        "why_missed": "row drawers place * graces", "why_hit": "row drawers place * graces",
    },
    "shelf": {
        "shelf": "row", "held": "row drawers", "marks": "row", "sizes": "row drawers",
        "most_held": "row drawers", "stays": "row drawers", "fits": "row places",
    },
    "plain": {
        "plain_depths": "row", "plain_misses": "row places", "spared": "row drawers",
        "like_places": "row drawers",
    },
    "graces": {
        "is_kinder": "graces other", "helped": "row drawers graces other",
        "like_drawers": "row drawers graces", "by_grace": "row drawers thing * graces",
        "least_graces": "row drawers wish * graces", "least_paper": "row drawers wish * graces",
        "is_least_paper": "row drawers wish thing * graces",
        "graces_of": "row drawers places", "graces_barred": "row drawers places",
    },
    "starts": {
        "is_younger": "drawers one other * graces",
        "unlike_asks": "row drawers one other * graces", "met": "row drawers one other * graces",
        "younger_of": "drawers one other * graces", "elder_of": "drawers one other * graces",
        "how_many_between": "drawers one other * graces",
        "row_to": "drawers start", "comes_to": "row drawers start",
        "all_met": "row drawers things * graces", "more_missed": "row drawers one other * graces",
    },
    "edits": {
        "put_in": "row place thing * graces", "left_out": "row place * graces",
        "exchanged": "row place * graces", "put_away": "row place thing * graces",
        "best_put_in": "row drawers * graces",
    },
    "reminders": {
        "kept_walk": "row drawers wished * graces", "gaps": "row drawers wished * graces",
        "needs": "row drawers wished * graces", "fewest": "row drawers wished * graces",
        "lazy": "row drawers wished * graces", "wanted": "row drawers wished * graces",
        "drawers_for_few": "row wished most * graces",
    },
}


def told_of(function):
    """The arguments as the table above has them; a default is None or none at all."""
    words = []
    for one in inspect.signature(function).parameters.values():
        if one.kind == one.KEYWORD_ONLY:
            if "*" not in words:
                words.append("*")
            if one.default is not None:
                return "a default that is not told"
        elif one.kind != one.POSITIONAL_OR_KEYWORD or one.default is not one.empty:
            return "an argument that is not told"
        words.append(one.name)
    return " ".join(words)


class TestInterface(unittest.TestCase):
    def test_names_and_arguments(self):
        for module, functions in INTERFACE.items():
            file = importlib.import_module("missclock." + module)
            for name, words in functions.items():
                function = getattr(file, name)
                self.assertEqual(function.__module__, "missclock." + module)
                self.assertEqual(told_of(function), words, name)


if __name__ == "__main__":
    unittest.main()
