"""What comes from something, step by step."""

from touchshare.errors import TooGreat

MOST = 20000


def come_from(first, nexts):
    """A dict of all that comes from first, in the order of how few steps lead there; TooGreat of more than MOST.

    nexts tells of anything a list of pairs, a step and what it leads to. Each key has as its value the pair of what it
    came from and by which step, as few steps behind first as can be; first has None.
    """
    came = {first: None}
    layer = [first]
    while layer:
        further = []
        for ahead in layer:
            for step, behind in nexts(ahead):
                if behind not in came:
                    came[behind] = (ahead, step)
                    further.append(behind)
                    if len(came) > MOST:
                        raise TooGreat(MOST)
        layer = further
    return came


def steps_to(came, last):
    """The steps by which one came of all that come_from told, the last one of them first."""
    steps = []
    while came[last] is not None:
        last, step = came[last]
        steps.append(step)
    return steps
