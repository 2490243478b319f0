"""touchshare.errors: what each error keeps, and by what it is caught."""

import copy
import pickle
import unittest

from tests.samples import odd_things
from touchshare import errors

UNDER_SHARE = {
    "BadRule": "part", "BadJourney": "number", "BadKind": "value", "BadNumber": "value", "BadStanding": "value",
    "BadFraction": "value", "BadPaper": "part", "BadText": "line", "BadDeed": "value", "BadMenu": "number",
    "BadPaid": "number", "BadWishes": "value",
}
OTHERS = {"TooGreat": ("most", OverflowError), "Nothing": ("value", LookupError)}


def all_classes():
    """Of each error class its name, the class, its parameter and its base."""
    rows = [(name, getattr(errors, name), kept, errors.ShareError) for name, kept in UNDER_SHARE.items()]
    rows += [(name, getattr(errors, name), kept, base) for name, (kept, base) in OTHERS.items()]
    return rows


class ErrorClasses(unittest.TestCase):
    def test_share_error_is_straight_under_value_error(self):
        self.assertEqual(errors.ShareError.__bases__, (ValueError,))
        with self.assertRaises(ValueError):
            raise errors.ShareError()

    def test_each_class_is_straight_under_its_base(self):
        for name, made, _, base in all_classes():
            with self.subTest(name):
                self.assertEqual(made.__bases__, (base,))
                self.assertEqual(made.__module__, "touchshare.errors")
                self.assertEqual(made.__name__, name)

    def test_there_are_no_other_error_classes(self):
        names = {name for name, thing in vars(errors).items() if isinstance(thing, type)}
        self.assertEqual(names, set(UNDER_SHARE) | set(OTHERS) | {"ShareError"})

    def test_an_error_keeps_any_thing_by_position_and_by_name(self):
        for name, made, kept, _ in all_classes():
            for thing in odd_things() + [None, 3, "kinds"]:
                with self.subTest(name):
                    self.assertIs(getattr(made(thing), kept), thing)
                    self.assertIs(getattr(made(**{kept: thing}), kept), thing)

    def test_an_error_has_a_text_whatever_it_is_made_of(self):
        for name, made, kept, _ in all_classes():
            for thing in odd_things():
                with self.subTest(name):
                    self.assertTrue(str(made(thing)))
                    self.assertTrue(repr(made(**{kept: thing})))

    def test_an_error_is_made_of_one_thing(self):
        for name, made, _, _ in all_classes():
            with self.subTest(name):
                self.assertRaises(TypeError, made)
                self.assertRaises(TypeError, made, 1, 2)

    def test_an_error_that_is_made_later_leaves_earlier_ones_as_they_are(self):
        for name, made, kept, _ in all_classes():
            with self.subTest(name):
                first = made(1)
                made(2)
                self.assertEqual(getattr(first, kept), 1)

    def test_an_error_is_caught_by_its_base_and_by_no_other_class(self):
        rows = all_classes()
        for name, made, _, base in rows:
            for other_name, other, _, _ in rows:
                with self.subTest(name, other=other_name):
                    self.assertEqual(issubclass(made, other), made is other)
            for above in (errors.ShareError, ValueError, OverflowError, LookupError, TypeError, KeyError, IndexError):
                with self.subTest(name, above=above.__name__):
                    self.assertEqual(issubclass(made, above), issubclass(base, above))
            with self.subTest(name), self.assertRaises(base):
                raise made("any")

    def test_a_copy_of_an_error_keeps_the_same(self):
        for name, made, kept, _ in all_classes():
            with self.subTest(name):
                self.assertEqual(getattr(copy.copy(made(**{kept: 7})), kept), 7)
                self.assertEqual(getattr(pickle.loads(pickle.dumps(made(7))), kept), 7)


if __name__ == "__main__":
    unittest.main()
