"""Runs of a code from its door on, and how often they meet a lot of jumps."""

from loopcuts.cuts import check_cut, check_lot
from loopcuts.errors import BadNumber, BadRun
from loopcuts.kinds import is_integer_within
from loopcuts.loops import are_jump_numbers, begins_of, ends_of

MOST_JUMPS_OF_A_RUN = 4


def is_run(code, thing):
    """Tell whether any value is a run of the code."""
    if not are_jump_numbers(code, thing):
        return False
    stops = [code.door] + ends_of(code, thing)
    return begins_of(code, thing) == stops[:-1]


def met(code, run, lot):
    """Return how often the run meets the lot."""
    if not is_run(code, run):
        raise BadRun(run)
    check_lot(code, lot)
    return len([number for number in run if number in lot])


def longest_unmet(code, lot):
    """Return the greatest number of jumps, one behind another in a run, that are not in the lot."""
    check_cut(code, lot)
    unmet = [jump for number, jump in enumerate(code.jumps) if number not in lot]
    longest = {place: 0 for place in code.places}
    # Without a loop among these jumps, a row of them comes to each place once at most.
    for _ in code.places:
        for begin, end, _ in unmet:
            longest[end] = max(longest[end], longest[begin] + 1)
    return max(list(longest.values()))


def runs_of(code, many):
    """Return the ascending tuple of all runs of just so many jumps."""
    if not is_integer_within(many, 0, MOST_JUMPS_OF_A_RUN):
        raise BadNumber(many)
    runs = [((), code.door)]
    for _ in range(many):
        runs = [(run + (number,), end) for run, stop in runs for number, end in _steps_from(code, stop)]
    return tuple([run for run, _ in runs])


def _steps_from(code, place):
    """Return the list of the jumps that begin at the place, each as its number and its end."""
    return [(number, end) for number, (begin, end, _) in enumerate(code.jumps) if begin == place]
