"""Which devices turned out to be one."""


class Joins:
    """Joined devices: each one hangs under another one, up to the top one of all that are joined with it."""

    def __init__(self):
        self._above = {}
        self._sizes = {}
        self._hung = []

    def twin(self):
        """Joins that stand likewise, and go on by themselves."""
        twin = Joins()
        twin._above = dict(self._above)
        twin._sizes = dict(self._sizes)
        twin._hung = list(self._hung)
        return twin

    def top(self, device):
        """The one of all devices joined with this one that stands for them."""
        while device in self._above:
            device = self._above[device]
        return device

    def unite(self, device, other):
        """Joins two devices, whatever they are joined with already."""
        high, low = self.top(device), self.top(other)
        if high == low:
            return
        # The lesser hangs under the greater one, so that no way to the top is long.
        if self._size(high) < self._size(low):
            high, low = low, high
        self._above[low] = high
        self._sizes[high] = self._size(high) + self._size(low)
        self._hung.append(low)

    def made(self):
        """How many joins made one of two."""
        return len(self._hung)

    def cut_to(self, many):
        """Takes back what was joined behind the first so many joins that made one of two."""
        for low in reversed(self._hung[many:]):
            high = self._above.pop(low)
            self._sizes[high] = self._size(high) - self._size(low)
        del self._hung[many:]

    def _size(self, device):
        return self._sizes.get(device, 1)
