"""What tests of refusals have in common: each wrong argument is told, and the first one of several."""

import itertools


def check_refusal(test, call, arguments, told):
    """That a call with arguments by name raises an error of just this class, with this value under this name."""
    error, name, value = told
    with test.subTest(arguments=str(list(arguments)), told=(error.__name__, name)):
        try:
            call(**arguments)
        except error as caught:
            test.assertIs(type(caught), error)
            kept = getattr(caught, name)
            if isinstance(value, (int, str, type(None))) and not isinstance(value, bool):
                test.assertEqual(kept, value)
                test.assertIs(type(kept), type(value))
            else:
                test.assertIs(kept, value)
        else:
            test.fail("nothing was raised")


def check_refusals(test, call, good, wrong):
    """That each wrong argument is refused, and of two ones the first one.

    good has all arguments by their names, in their order; wrong are triples of a name, a value and what is told: a
    triple of the class of the error, the name of its attribute and the value of it.
    """
    for name, value, told in wrong:
        check_refusal(test, call, {**good, name: value}, told)
    order = list(good)
    for one, other in itertools.permutations(wrong, 2):
        if order.index(one[0]) < order.index(other[0]):
            check_refusal(test, call, {**good, one[0]: one[1], other[0]: other[1]}, one[2])


def check_names(test, call, good):
    """That a call takes its arguments by position and by name alike, and returns equal things each time."""
    by_position = call(*good.values())
    test.assertEqual(call(**good), by_position)
    test.assertEqual(call(**dict(reversed(good.items()))), by_position)
    return by_position
