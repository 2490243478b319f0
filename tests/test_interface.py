"""The interface of the document: what is called how, with which arguments, in which file."""

import importlib
import inspect
import unittest

FUNCTIONS = {
    "rules": {"need_rule": "(thing)", "need_journey": "(rule, thing)"},
    "sharing": {
        "reached": "(rule, journey)", "credited": "(rule, journey)", "touch_credits": "(rule, journey)",
        "kind_credits": "(rule, journey)", "all_given": "(rule, journey)",
    },
    "standings": {
        "hours": "(rule)", "is_standing": "(rule, value)", "first_standing": "(rule)",
        "behind": "(rule, standing, kind, distance)", "standing_of": "(rule, journey)",
        "credits_at": "(rule, standing)", "standings": "(rule)", "journey_to": "(rule, standing)",
    },
    "wholes": {
        "givings": "(rule)", "givings_of": "(rule, kind)", "journey_giving": "(rule, fraction)", "is_whole": "(rule)",
        "unwhole": "(rule)",
    },
    "shields": {
        "does_shield": "(rule, kind, other, many)", "least_shield": "(rule, kind, other)",
        "shield_paper": "(rule, kind, other, many)", "check_shield": "(rule, kind, other, many, paper)",
    },
    "books": {"under": "(manager, deed)"},
    "texts": {
        "rule_text": "(rule)", "read_rule": "(string)", "journey_text": "(rule, journey)",
        "read_journey": "(rule, string)",
    },
    "likes": {
        "are_alike": "(rule, other)", "parting": "(rule, other)", "like_paper": "(rule, other)",
        "check_like": "(rule, other, paper)",
    },
    "gains": {
        "most_gain": "(rule, kind, other)", "least_gain": "(rule, kind, other)",
        "gain_journey": "(rule, kind, other, *, least=False)", "gain_paper": "(rule, kind, other)",
        "check_gain": "(rule, kind, other, paper)",
    },
    "ranges": {
        "unseen_range": "(rule, journey, kind, many)",
        "full_journey": "(rule, journey, kind, many, *, least=False)",
        "surely_credited": "(rule, journey, many)", "perhaps_credited": "(rule, journey, many)",
    },
    "menus": {
        "need_menu": "(thing)", "fitting_rules": "(menu, paid)", "lots": "(menu)", "parted_by": "(menu, journey)",
        "parting_most": "(menu)", "parting_journeys": "(menu)",
    },
    "wishes": {
        "wishes_of": "(rule)", "does_quarrel": "(menu, wishes)", "quarrels": "(menu)",
        "least_window": "(rule, wishes, greatest)",
    },
}
# Of each class the methods that it has itself, and its properties.
BOOK_METHODS = {
    "__init__": "(self, rule)", "__call__": "(self, hours)", "__len__": "(self)", "__eq__": "(self, other)",
    "__contains__": "(self, value)", "touch": "(self, device, kind, hour)", "sell": "(self, device)",
    "take_back": "(self, number)", "unite": "(self, device, other)", "journey": "(self, number)",
    "sale_credits": "(self, number)", "total": "(self, kind)", "back": "(self, *, many=1)", "copy": "(self)",
    "trial": "(self)",
}
DESK_METHODS = {"__init__": "(self, text)", "say": "(self, line)"}
CLASSES = (
    ("books", "Book", BOOK_METHODS, ("rule", "hour", "postings", "sales")), ("desk", "Desk", DESK_METHODS, ("book",)),
)


class Interface(unittest.TestCase):
    def test_functions(self):
        for name, functions in FUNCTIONS.items():
            module = importlib.import_module("touchshare." + name)
            for function, arguments in functions.items():
                with self.subTest(function):
                    found = getattr(module, function)
                    self.assertTrue(inspect.isfunction(found))
                    self.assertEqual(str(inspect.signature(found)), arguments)
                    self.assertEqual(found.__module__, module.__name__)

    def test_each_class_itself_has_its_methods(self):
        for module, name, methods, properties in CLASSES:
            told = getattr(importlib.import_module("touchshare." + module), name)
            self.assertEqual(told.__module__, "touchshare." + module)
            for method, arguments in methods.items():
                with self.subTest(method):
                    self.assertEqual(str(inspect.signature(vars(told)[method])), arguments)
            for one in properties:
                self.assertIsInstance(vars(told)[one], property)

    def test_each_error_is_made_of_what_is_told(self):
        errors = importlib.import_module("touchshare.errors")
        names = {"BadRule": "part", "BadJourney": "number", "BadKind": "value", "BadNumber": "value",
                 "BadStanding": "value", "BadFraction": "value", "BadPaper": "part", "BadText": "line",
                 "BadDeed": "value", "BadMenu": "number", "BadPaid": "number", "BadWishes": "value",
                 "TooGreat": "most", "Nothing": "value"}
        for name, argument in names.items():
            self.assertEqual(str(inspect.signature(getattr(errors, name).__init__)), f"(self, {argument})")


if __name__ == "__main__":
    unittest.main()
