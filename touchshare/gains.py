"""Who gains or loses by a touch more, and the paper on the MOST GAIN."""

from touchshare.errors import BadPaper
from touchshare.needs import is_journey, need_two_kinds
from touchshare.rules import KINDS
from touchshare.sharing import kind_credits
from touchshare.tracks import PUT, Tracks
from touchshare.values import fraction_less, is_ascending, is_fraction, is_integer, is_tuple, ordered_fractions


def most_gain(rule, kind, other):
    """The MOST GAIN of a kind by a touch more of the other one."""
    return _all_gains(rule, kind, other)[-1]


def least_gain(rule, kind, other):
    """The LEAST GAIN of a kind by a touch more of the other one."""
    return _all_gains(rule, kind, other)[0]


def gain_journey(rule, kind, other, *, least=False):
    """A JOURNEY with as few touches as can be, and the number of one that brings the MOST GAIN, or the LEAST GAIN."""
    need_two_kinds(rule, kind, other)
    tracks = Tracks(rule, other)
    came = tracks.all_tracks()
    gains = _gains(tracks, came, rule[KINDS].index(kind))
    return tracks.journey_to(came, _first_bringing(gains, _extreme(gains, least)))


def gain_paper(rule, kind, other):
    """The paper on the MOST GAIN: (GAIN, TABLE, JOURNEY, NUMBER)."""
    need_two_kinds(rule, kind, other)
    tracks = Tracks(rule, other)
    came = tracks.all_tracks()
    gains = _gains(tracks, came, rule[KINDS].index(kind))
    most = _extreme(gains, False)
    journey, number = tracks.journey_to(came, _first_bringing(gains, most))
    return (most, tuple(sorted([tracks.told(track) for track in came])), journey, number)


def check_gain(rule, kind, other, paper):
    """The GAIN of a paper on the MOST GAIN; BadPaper of what is none."""
    need_two_kinds(rule, kind, other)
    if not is_tuple(paper, 4) or not is_fraction(paper[0]):
        raise BadPaper("form")
    gain, table, journey, number = paper
    if not _is_table(Tracks(rule, other), rule[KINDS].index(kind), gain, table):
        raise BadPaper("table")
    if not _does_bring(rule, kind, other, gain, journey, number):
        raise BadPaper("journey")
    return gain


def _all_gains(rule, kind, other):
    """All GAINS of a kind by a touch more of the other one, ascending as numbers."""
    need_two_kinds(rule, kind, other)
    tracks = Tracks(rule, other)
    gains = _gains(tracks, tracks.all_tracks(), rule[KINDS].index(kind))
    return ordered_fractions(list(gains.values()))


def _gains(tracks, came, number):
    """A dict: of each track that came with PUT 1, in their order, what the KIND of a number gains."""
    return {track: tracks.gain(track, number) for track in came if track[PUT] == 1}


def _extreme(gains, least):
    """The greatest of all gains, or the least one."""
    ordered = ordered_fractions(list(gains.values()))
    return ordered[0] if least else ordered[-1]


def _first_bringing(gains, sought):
    """The first track that brings just this."""
    return [track for track in gains if gains[track] == sought][0]


def _is_table(tracks, number, gain, table):
    """Whether any value is a TABLE: of TRACKS, closed, with the first one, at none a greater GAIN."""
    if not isinstance(table, tuple) or not all([tracks.has_form(told) for told in table]) or not is_ascending(table):
        return False
    rows = {tracks.track_of(told): True for told in table}
    if tracks.first not in rows:
        return False
    return all([_is_within(tracks, number, gain, row) and _is_closed(tracks, rows, row) for row in rows])


def _is_within(tracks, number, gain, track):
    """Whether at a track the KIND of a number gains at most so much."""
    if track[PUT] == 0:
        return True
    return fraction_less(tracks.gain(track, number), gain)[0] <= 0


def _is_closed(tracks, rows, track):
    return all([behind in rows for _, behind in tracks.nexts(track)])


def _does_bring(rule, kind, other, gain, journey, number):
    """Whether any value is a JOURNEY of which the TOUCH of a number is one of the other kind and brings just this."""
    if not is_journey(rule, journey) or not is_integer(number, 0, len(journey) - 1) or journey[number][0] != other:
        return False
    place = rule[KINDS].index(kind)
    among = kind_credits(rule, journey)[place]
    without = kind_credits(rule, journey[:number] + journey[number + 1:])[place]
    return fraction_less(among, without) == gain
