"""Rest sums of windows, and the hops at which windows are even."""

from frameseams.checks import need_hop
from frameseams.entries import sums_at
from frameseams.errors import NotEven
from frameseams.windows import need_window


def rest_sums(window, hop):
    """The list of hop sums: at r of the entries whose number leaves the rest r."""
    need_window(window)
    need_hop(hop)
    return sums_at(window, hop)


def is_even(window, hop):
    return uneven_rests(window, hop) is None


def uneven_rests(window, hop):
    """The least tuple of two rests with different sums, or None."""
    sums = rest_sums(window, hop)
    # If any two sums differ, one of them differs from the first, too: the least tuple begins with 0.
    for rest in range(1, hop):
        if sums[rest] != sums[0]:
            return (0, rest)
    return None


def need_even(window, hop):
    pair = uneven_rests(window, hop)
    if pair is not None:
        raise NotEven(pair[0], pair[1])


def level_at(window, hop):
    """The number that all rest sums are; NotEven if they differ."""
    need_even(window, hop)
    return sum(window[::hop])


def hops_of(window):
    """The ascending list of all hops at which the window is even."""
    need_window(window)
    # Beyond the number of entries some rest sum is 0 without entries, and another one is not 0.
    return [hop for hop in range(1, len(window) + 1) if is_even(window, hop)]


def greatest_hop(window):
    return max(hops_of(window))
