"""What is refused: the errors of the package.

The texts name no value: an error may be made of any things, also of such as can not be shown.
"""


class ShareError(ValueError):
    """What is refused."""


class BadRule(ShareError):
    """What is no RULE; part tells where."""

    def __init__(self, part):
        super().__init__("what is handed in is no rule: see part")
        self.part = part


class BadJourney(ShareError):
    """What is no JOURNEY; number is that of the first wrong touch, or None."""

    def __init__(self, number):
        super().__init__("what is handed in is no journey: see number")
        self.number = number


class BadKind(ShareError):
    """What is none of the kinds."""

    def __init__(self, value):
        super().__init__("this is none of the kinds: see value")
        self.value = value


class BadNumber(ShareError):
    """What is no such number."""

    def __init__(self, value):
        super().__init__("this is no such number: see value")
        self.value = value


class BadStanding(ShareError):
    """What is no standing."""

    def __init__(self, value):
        super().__init__("this is no standing: see value")
        self.value = value


class BadFraction(ShareError):
    """What is no such fraction."""

    def __init__(self, value):
        super().__init__("this is no such fraction: see value")
        self.value = value


class BadPaper(ShareError):
    """A paper that is not as told; part tells where."""

    def __init__(self, part):
        super().__init__("the paper is not as told: see part")
        self.part = part


class BadText(ShareError):
    """A text that can not stand so; line is the number of a row, or 0."""

    def __init__(self, line):
        super().__init__("the text can not stand so: see line")
        self.line = line


class BadDeed(ShareError):
    """A deed that a book refuses."""

    def __init__(self, value):
        super().__init__("the book refuses the deed: see value")
        self.value = value


class BadMenu(ShareError):
    """What is no menu; number is that of the first wrong rule, or None."""

    def __init__(self, number):
        super().__init__("what is handed in is no menu: see number")
        self.number = number


class BadPaid(ShareError):
    """What was not paid so; number is that of the first wrong thing, or None."""

    def __init__(self, number):
        super().__init__("nothing can be paid like this: see number")
        self.number = number


class BadWishes(ShareError):
    """What are no wishes."""

    def __init__(self, value):
        super().__init__("these are no wishes: see value")
        self.value = value


class TooGreat(OverflowError):
    """More had to be looked at than most."""

    def __init__(self, most):
        super().__init__("there is more to look at than is allowed: see most")
        self.most = most


class Nothing(LookupError):
    """What is not there."""

    def __init__(self, value):
        super().__init__("there is nothing like this: see value")
        self.value = value
