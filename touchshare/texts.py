"""RULES and JOURNEYS as texts."""

from touchshare.errors import BadRule, BadText
from touchshare.rules import GREATEST_AGE, KINDS, MOST_TOUCHES, need_journey, need_rule
from touchshare.values import is_integer, written_integer

MANY_ROWS = 8
# The number of the row that tells of a part of a RULE; "shares" have two rows.
PART_ROWS = {"kinds": 1, "window": 2, "gap": 3, "weak": 4, "once": 5, "pick": 6}
SHARES_ROW = 7
SHARES_WORDS = ("even", "places", "ages")


def rule_text(rule):
    """The text of a RULE, eight rows."""
    kinds, window, gap, weak, once, pick, shares = need_rule(rule)
    rows = [
        ["kinds", *kinds], ["window", _limit_word(window)], ["gap", _limit_word(gap)], ["weak", *weak], ["once", once],
        ["pick", pick[0], str(pick[1])], [shares[0]], _shares_words(shares),
    ]
    return "\n".join([" ".join(words) for words in rows])


def read_rule(string):
    """The RULE of a text; BadText with the number of the first row that can not stand so."""
    rows = _need_string(string).split("\n")
    # Where a row lacks, an empty one can not stand either.
    told = rows[:MANY_ROWS] + [""] * (MANY_ROWS - len(rows))
    try:
        rule = need_rule(_told_rule(told))
    except BadRule as wrong:
        raise BadText(_wrong_row(wrong.part, told)) from None
    if len(rows) > MANY_ROWS:
        raise BadText(MANY_ROWS + 1)
    return rule


def journey_text(rule, journey):
    """The text of a JOURNEY, a row for each touch."""
    need_journey(rule, journey)
    return "\n".join([f"{kind} {age}" for kind, age in journey])


def read_journey(rule, string):
    """The JOURNEY of a text; BadText with the number of the first row that can not stand so."""
    need_rule(rule)
    if _need_string(string) == "":
        return ()
    journey = []
    greatest = GREATEST_AGE
    for number, row in enumerate(string.split("\n"), start=1):
        touch = _told_touch(row)
        if number > MOST_TOUCHES or touch[0] not in rule[KINDS] or not is_integer(touch[1], 0, greatest):
            raise BadText(number)
        journey.append(touch)
        greatest = touch[1]
    return tuple(journey)


def _need_string(value):
    """The value itself; BadText(0) of what is no string."""
    if not isinstance(value, str):
        raise BadText(0)
    return value


def _limit_word(limit):
    return "none" if limit is None else str(limit)


def _shares_words(shares):
    """The words of the last row of a RULE."""
    if shares[0] == "even":
        return ["-"]
    if shares[0] == "places":
        return [str(part) for row in shares[1] for part in row]
    return [str(part) for part in [len(shares[1]), *shares[1], *shares[2]]]


def _told_rule(rows):
    """The seven parts that eight rows tell of; None stands for what a row can not tell, but for WINDOW and GAP -1."""
    kinds, window, gap, weak, once, pick, word, last = rows
    return (_told_words(kinds, "kinds"), _told_limit(window, "window"), _told_limit(gap, "gap"),
            _told_words(weak, "weak"), _told_once(once), _told_pick(pick), _told_shares(word, last))


def _told_words(row, name):
    """The words behind the name of a row."""
    first, *words = row.split(" ")
    return tuple(words) if first == name else None


def _told_limit(row, name):
    words = _told_words(row, name)
    if words == ("none",):
        return None
    number = written_integer(words[0]) if words is not None and len(words) == 1 else None
    # None would be a limit.
    return -1 if number is None else number


def _told_once(row):
    words = _told_words(row, "once")
    return words[0] if words is not None and len(words) == 1 else None


def _told_pick(row):
    words = _told_words(row, "pick")
    if words is None or len(words) != 2:
        return None
    return (words[0], written_integer(words[1]))


def _told_shares(word, row):
    """The SHARES that the last two rows tell of."""
    if word == "even":
        return ("even",) if row == "-" else None
    numbers = [written_integer(told) for told in row.split(" ")]
    if word == "places":
        return ("places", _told_places(numbers))
    if word == "ages" and numbers[0] is not None:
        return ("ages", tuple(numbers[1:numbers[0] + 1]), tuple(numbers[numbers[0] + 1:]))
    return None


def _told_places(numbers):
    """ROWS of one number, of two, and so on, as far as there are numbers."""
    rows = []
    while numbers:
        many = len(rows) + 1
        rows.append(tuple(numbers[:many]))
        numbers = numbers[many:]
    return tuple(rows)


def _wrong_row(part, rows):
    """The number of the row by which a part is not as a RULE has it."""
    if part in PART_ROWS:
        return PART_ROWS[part]
    return SHARES_ROW if rows[SHARES_ROW - 1] not in SHARES_WORDS else SHARES_ROW + 1


def _told_touch(row):
    """The pair of a KIND and an AGE that a row tells of; None stands for what it can not tell."""
    words = row.split(" ")
    if len(words) != 2:
        return (None, None)
    return (words[0], written_integer(words[1]))
