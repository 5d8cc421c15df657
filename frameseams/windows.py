"""Windows, and windows and lists that are made of them."""

from frameseams.checks import MOST_ENTRIES, is_integer, is_integer_list, need_hop, need_number
from frameseams.entries import laid, multiplied, spread
from frameseams.errors import InvalidHop, InvalidNumber, InvalidWindow

MOST_WINDOWS = 8


def is_window(thing):
    return is_integer_list(thing, MOST_ENTRIES) and any(thing)


def need_window(window):
    if not is_window(window):
        raise InvalidWindow(f"a window is a list of 1 to {MOST_ENTRIES} integers, not all 0")


def total_of(window):
    need_window(window)
    return sum(window)


def product_of(window, other):
    """The list whose entry k is the sum of all products of entries with numbers that add up to k."""
    need_window(window)
    need_window(other)
    if len(window) + len(other) - 1 > MOST_ENTRIES:
        raise InvalidWindow(f"the product has more than {MOST_ENTRIES} entries")
    return multiplied(window, other)


def stretched(window, by):
    """The window with by - 1 zeros between neighbouring entries."""
    need_window(window)
    if not is_integer(by) or by < 1:
        raise InvalidNumber("a window is stretched by an integer from 1 on")
    if (len(window) - 1) * by + 1 > MOST_ENTRIES:
        raise InvalidNumber(f"the stretched window has more than {MOST_ENTRIES} entries")
    return spread(window, by)


def phases_of(window, by):
    """by lists: at r the entries r, r + by, r + 2 * by and so on."""
    need_window(window)
    need_number(by, 1, MOST_ENTRIES)
    return [window[rest::by] for rest in range(by)]


def turned_round(window):
    need_window(window)
    return window[::-1]


def flat_window(hop):
    need_hop(hop, 1, MOST_ENTRIES)
    return [1] * hop


def laid_over(window, other, offset):
    """The sum of both windows, other moved by offset entries."""
    need_window(window)
    need_window(other)
    if not is_integer(offset) or offset < 0:
        raise InvalidNumber("a window is moved by an integer from 0 on")
    if _end_of([window, other], offset) > MOST_ENTRIES:
        raise InvalidNumber(f"the sum has more than {MOST_ENTRIES} entries")
    return _sum_of_moved([window, other], offset)


def laid_in_turn(windows, hop):
    """The sum of all windows, the one with number j moved by j * hop entries."""
    _need_windows(windows)
    need_hop(hop)
    if _end_of(windows, hop) > MOST_ENTRIES:
        raise InvalidHop(f"the sum has more than {MOST_ENTRIES} entries")
    return _sum_of_moved(windows, hop)


def _need_windows(windows):
    if not isinstance(windows, list) or not 1 <= len(windows) <= MOST_WINDOWS:
        raise InvalidWindow(f"the windows are no list of 1 to {MOST_WINDOWS} windows")
    for window in windows:
        need_window(window)


def _end_of(windows, step):
    # An earlier window may reach beyond the last one.
    return max([j * step + len(window) for j, window in enumerate(windows)])


def _sum_of_moved(windows, step):
    entries = laid([(j * step, window) for j, window in enumerate(windows)], _end_of(windows, step))
    if not any(entries):
        raise InvalidWindow("the sum has only zeros")
    return entries
