"""The interface: every name is there, with the arguments that are told, which may be handed in by their names."""

import importlib
import inspect
import unittest

FUNCTIONS = {
    "cards": {"is_word": "thing", "is_number": "thing", "is_time": "thing", "is_card": "thing", "has_mark": "card word",
              "size_of": "card word"},
    "wishes": {"is_wish": "thing", "lets": "wish card"},
    "wishtexts": {"wish_text": "wish", "read_wish": "text"},
    "reasons": {"reason": "wish card", "shows": "wish card thing"},
    "offers": {"is_offer": "thing", "part": "some", "why_none": "some", "none_shown": "some thing"},
    "rows": {"is_rule": "thing", "are_borne": "thing", "row_of": "rule waiters", "sets_of": "borne waiters",
             "first_meeting": "rule borne waiters", "rest_paper": "borne waiters", "rest_holds": "borne waiters thing"},
    "house": {"are_quiet": "thing"},
    "judge": {"judged": "rule borne quiet book"},
    "texts": {"offer_text": "offer", "book_text": "book", "read_offer": "text", "read_book": "text"},
}
CLASSES = {
    ("house", "House"): {
        "__init__": "rule borne quiet", "come": "time offer", "off": "time name", "change": "time offer",
        "less": "time name many", "wait": "time name till", "come_to": "time", "now": "", "row": "",
        "left": "number", "offer": "number", "end": "number", "meetings": "", "waiters": "", "rest": "", "book": "",
        "would": "time offer",
    },
    ("desk", "Desk"): {"__init__": "", "say": "line"},
}


def arguments(function):
    """The arguments of a function, all of which may be handed in by place and by name, and have to be."""
    told = inspect.signature(function).parameters.values()
    assert all(one.kind is one.POSITIONAL_OR_KEYWORD and one.default is one.empty for one in told)
    return [one.name for one in told]


class InterfaceTest(unittest.TestCase):
    def test_functions(self):
        for module, functions in FUNCTIONS.items():
            for name, told in functions.items():
                with self.subTest(f"{module}.{name}"):
                    function = getattr(importlib.import_module(f"matepoint.{module}"), name)
                    self.assertEqual(arguments(function), told.split())
                    self.assertEqual(function.__module__, f"matepoint.{module}")

    def test_classes(self):
        for (module, name), methods in CLASSES.items():
            told = getattr(importlib.import_module(f"matepoint.{module}"), name)
            for method, names in methods.items():
                with self.subTest(f"{module}.{name}.{method}"):
                    self.assertEqual(arguments(getattr(told, method))[1:], names.split())


if __name__ == "__main__":
    unittest.main()
