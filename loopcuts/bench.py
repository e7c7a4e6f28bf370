"""Benches: codes that are led deed by deed, with undo and trials."""

from loopcuts.cuts import least_cost
from loopcuts.errors import BadNumber
from loopcuts.kinds import is_integer_within


class Trial:
    """One with statement; when it ends, the bench is what it was when it began."""

    def __init__(self, bench):
        self._bench = bench
        self._now = None
        self._past = None

    def __enter__(self):
        self._now = self._bench._now
        # Deeds and undo change the bench's own list.
        self._past = list(self._bench._past)
        return self._bench

    def __exit__(self, kind, value, trace):
        self._bench._now = self._now
        self._bench._past = self._past


class Bench:
    """A code that is led deed by deed."""

    def __init__(self, code):
        self._now = code
        self._past = []

    def __len__(self):
        return len(self._past)

    def __eq__(self, other):
        return isinstance(other, Bench) and self._now == other._now

    @property
    def code(self):
        """The code now."""
        return self._now

    def worth(self):
        """Return the least cost of a cut now."""
        return least_cost(self._now)

    def jump(self, jump):
        """Put a further jump at the end of the code."""
        self._lead_to(self._now.with_jump(jump))

    def drop(self, number):
        """Take the jump of that number away."""
        self._lead_to(self._now.without_jump(number))

    def price(self, number, price):
        """Give the jump of that number that price."""
        self._lead_to(self._now.priced(number, price))

    def undo(self, many=1):
        """Take back the last deeds, so many of them."""
        if not is_integer_within(many, 1, len(self._past)):
            raise BadNumber(many)
        self._now = self._past[-many]
        del self._past[-many:]

    def trial(self):
        """Return what a with statement is made of whose deeds are taken back at its end."""
        return Trial(self)

    def _lead_to(self, code):
        """Do a deed that makes the code another one."""
        self._past.append(self._now)
        self._now = code


def tried(bench, function):
    """Return what the function returns of the bench, whose deeds are taken back."""
    with bench.trial() as same:
        return function(same)
