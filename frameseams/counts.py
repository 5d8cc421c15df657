"""How many even windows of small numbers there are, and their sequence."""

from frameseams.checks import is_within, need_hop, need_integer, need_number
from frameseams.entries import sums_at
from frameseams.errors import InvalidIndex, InvalidWindow
from frameseams.rests import need_even
from frameseams.windows import need_window

GREATEST_LENGTH = 40
GREATEST_ENTRY = 30


def count_even(length, hop, most):
    """How many lists of length integers from 0 to most are even windows at hop."""
    _need_kind(length, hop, most)
    return sum(_next_counts([], length, hop, most, _sum_counts(length, hop, most)))


def count_at_level(length, hop, most, level):
    """How many of these windows have the level."""
    _need_kind(length, hop, most)
    need_integer(level)
    # Only zeros have the level 0, and they are no window.
    if level <= 0:
        return 0
    return _count_at(_left_behind(0, length, hop), [0] * hop, _sum_counts(length, hop, most), level)


def nth_even(length, hop, most, index):
    """The one of these windows with the index, in the ascending sequence of lists."""
    many_windows = count_even(length, hop, most)
    if not is_within(index, 0, many_windows - 1):
        raise InvalidIndex("no even window has this index")
    counts = _sum_counts(length, hop, most)
    window = []
    left = index
    for _ in range(length):
        entry = 0
        for many in _next_counts(window, length, hop, most, counts):
            if left < many:
                break
            left -= many
            entry += 1
        window.append(entry)
    return window


def even_index(window, hop, most):
    """The index of the window among the even ones of its length."""
    need_window(window)
    need_hop(hop)
    need_number(most, 1, GREATEST_ENTRY)
    length = len(window)
    if length > GREATEST_LENGTH or not all([0 <= entry <= most for entry in window]):
        raise InvalidWindow(f"the window is no list of at most {GREATEST_LENGTH} integers from 0 to {most}")
    need_even(window, hop)
    counts = _sum_counts(length, hop, most)
    index = 0
    for number, entry in enumerate(window):
        index += sum(_next_counts(window[:number], length, hop, most, counts)[:entry])
    return index


def _need_kind(length, hop, most):
    need_number(length, 1, GREATEST_LENGTH)
    need_hop(hop)
    need_number(most, 1, GREATEST_ENTRY)


def _sum_counts(length, hop, most):
    """A list: at many, for each sum how many lists of many integers from 0 to most have it."""
    counts = [[1]]
    for _ in range(0, length, hop):
        counts.append(_with_one_more(counts[-1], most))
    return counts


def _with_one_more(counts, most):
    """How many lists there are for each sum if an integer from 0 to most is added to those that were counted."""
    more = []
    # At each sum the counts of the most + 1 sums up to it come together.
    together = 0
    for coming, leaving in zip(counts + [0] * most, [0] * (most + 1) + counts):
        together += coming - leaving
        more.append(together)
    return more


def _left_behind(begin, length, hop):
    """For each rest how many of the numbers from begin to length - 1 leave it."""
    return sums_at([0] * begin + [1] * (length - begin), hop)


def _count_at(places, sums, counts, level):
    """How many ways there are to fill so many places of each rest that add up to the level with its sum."""
    ways = 1
    for many, done in zip(places, sums):
        if not 0 <= level - done < len(counts[many]):
            return 0
        ways *= counts[many][level - done]
    return ways


def _next_counts(start, length, hop, most, counts):
    """For each entry from 0 to most, how many of the windows begin with start and then this entry."""
    rest = len(start) % hop
    places = _left_behind(len(start), length, hop)
    sums = sums_at(start, hop)
    # The entry changes the ways of its own rest alone, so those of the others are counted once.
    other_places = places[:rest] + places[rest + 1:]
    other_sums = sums[:rest] + sums[rest + 1:]
    # No rest has a greater level than the one with the fewest entries; the level 0 has only zeros.
    top = length // hop * most
    others = [0] + [_count_at(other_places, other_sums, counts, level) for level in range(1, top + 1)]
    own = counts[places[rest] - 1]
    # The places behind the entry add up to what the level lacks; so no level below the rest's sum is left.
    least_levels = range(sums[rest], sums[rest] + most + 1)
    return [sum([ways * many for ways, many in zip(others[level:], own)]) for level in least_levels]
