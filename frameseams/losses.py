"""What lost frames cost: the sums that are left where frames lie at all multiples of a hop and some are lost."""

from frameseams.checks import is_integer_list, need_hop, need_integer, need_number
from frameseams.entries import laid
from frameseams.errors import InvalidList, InvalidNumber, InvalidWindow
from frameseams.rests import level_at, need_even
from frameseams.windows import need_window

MOST_LOST = 400
MOST_SAMPLES = 400


def least_left(window, hop, lost):
    """The least sum that is left at some sample if any so many frames are lost."""
    level = _level_for(window, hop, lost)
    # The frames that lie on a sample have there the entries of its rest; the others may be lost anywhere else.
    return level - max([_greatest_sum(window[rest::hop], lost) for rest in range(hop)])


def least_left_run(window, hop, lost):
    """The least sum that is left at some sample if so many neighbours are lost."""
    level = _level_for(window, hop, lost)
    return level - max([_greatest_run(window[rest::hop], lost) for rest in range(hop)])


def fewest_harm(window, hop):
    """The fewest lost frames that can leave the sum 0 at some sample."""
    need_window(window)
    if min(window) < 0:
        raise InvalidWindow("the window has negative entries")
    need_even(window, hop)
    # Without negative entries the sum is 0 only if nothing but zeros is left.
    return min([len([entry for entry in window[rest::hop] if entry != 0]) for rest in range(hop)])


def left_sums(window, hop, lost, begin, end):
    """The sums that are left at the samples begin to end - 1 if the frames with these numbers are lost."""
    need_window(window)
    need_hop(hop)
    _need_lost_frames(lost)
    need_integer(begin)
    need_integer(end)
    if not begin <= end <= begin + MOST_SAMPLES:
        raise InvalidNumber(f"the samples end ahead of their begin, or are more than {MOST_SAMPLES}")
    missing = {frame: True for frame in lost}
    # From the first frame that reaches the sample begin to the last one that begins ahead of end.
    frames = range((begin - len(window)) // hop + 1, (end - 1) // hop + 1)
    return laid([(frame * hop - begin, window) for frame in frames if frame not in missing], end - begin)


def _level_for(window, hop, lost):
    need_window(window)
    need_hop(hop)
    need_number(lost, 0, MOST_LOST)
    return level_at(window, hop)


def _need_lost_frames(lost):
    if not is_integer_list(lost, MOST_LOST, 0):
        raise InvalidList(f"no list of at most {MOST_LOST} integers")
    if not all([frame < following for frame, following in zip(lost, lost[1:])]):
        raise InvalidList("the numbers of the lost frames do not ascend")


def _greatest_sum(entries, most):
    """The greatest sum of at most so many of the entries."""
    return sum(sorted([entry for entry in entries if entry > 0], reverse=True)[:most])


def _greatest_run(entries, many):
    """The greatest sum of so many neighbours among the entries and zeros on both sides of them."""
    # More neighbours than there are entries can take no other ones than just as many.
    length = min([many, len(entries)])
    beside = [0] * length
    lying = beside + entries + beside
    return max([sum(lying[begin:begin + length]) for begin in range(len(entries) + length + 1)])
