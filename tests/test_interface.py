"""The interface of the document: what is called how, with which arguments, in which file."""

import importlib
import inspect
import unittest

FUNCTIONS = {
    "rules": {"need_rule": "(thing)", "need_journey": "(rule, thing)"},
    "sharing": {
        "reached": "(rule, journey)", "credited": "(rule, journey)", "touch_credits": "(rule, journey)",
        "kind_credits": "(rule, journey)", "all_given": "(rule, journey)",
    },
    "standings": {
        "hours": "(rule)", "is_standing": "(rule, value)", "first_standing": "(rule)",
        "behind": "(rule, standing, kind, distance)", "standing_of": "(rule, journey)",
        "credits_at": "(rule, standing)", "standings": "(rule)", "journey_to": "(rule, standing)",
    },
    "wholes": {
        "givings": "(rule)", "givings_of": "(rule, kind)", "journey_giving": "(rule, fraction)", "is_whole": "(rule)",
        "unwhole": "(rule)",
    },
    "shields": {
        "does_shield": "(rule, kind, other, many)", "least_shield": "(rule, kind, other)",
        "shield_paper": "(rule, kind, other, many)", "check_shield": "(rule, kind, other, many, paper)",
    },
    "books": {"under": "(manager, deed)"},
}
METHODS = {
    "__init__": "(self, rule)", "__call__": "(self, hours)", "__len__": "(self)", "__eq__": "(self, other)",
    "__contains__": "(self, value)", "touch": "(self, device, kind, hour)", "sell": "(self, device)",
    "take_back": "(self, number)", "unite": "(self, device, other)", "journey": "(self, number)",
    "sale_credits": "(self, number)", "total": "(self, kind)", "back": "(self, *, many=1)", "copy": "(self)",
    "trial": "(self)",
}
PROPERTIES = ("rule", "hour", "postings", "sales")


class Interface(unittest.TestCase):
    def test_functions(self):
        for name, functions in FUNCTIONS.items():
            module = importlib.import_module("touchshare." + name)
            for function, arguments in functions.items():
                with self.subTest(function):
                    found = getattr(module, function)
                    self.assertTrue(inspect.isfunction(found))
                    self.assertEqual(str(inspect.signature(found)), arguments)
                    self.assertEqual(found.__module__, module.__name__)

    def test_the_book_itself_has_each_method(self):
        book = importlib.import_module("touchshare.books").Book
        self.assertEqual(book.__module__, "touchshare.books")
        for method, arguments in METHODS.items():
            with self.subTest(method):
                self.assertEqual(str(inspect.signature(vars(book)[method])), arguments)
        for name in PROPERTIES:
            self.assertIsInstance(vars(book)[name], property)

    def test_each_error_is_made_of_what_is_told(self):
        errors = importlib.import_module("touchshare.errors")
        names = {"BadRule": "part", "BadJourney": "number", "BadKind": "value", "BadNumber": "value",
                 "BadStanding": "value", "BadFraction": "value", "BadPaper": "part", "BadDeed": "value",
                 "TooGreat": "most", "Nothing": "value"}
        for name, argument in names.items():
            self.assertEqual(str(inspect.signature(getattr(errors, name).__init__)), f"(self, {argument})")


if __name__ == "__main__":
    unittest.main()
