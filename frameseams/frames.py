"""Frames of a signal, the sums of frames, and the signal that comes back from them."""

from frameseams.checks import is_integer_list, need_hop, need_integer, need_list, need_number
from frameseams.entries import laid
from frameseams.errors import InvalidList, NothingToUndo
from frameseams.windows import need_window

MOST_SAMPLES = 400
MOST_FRAMES = 800
MOST_FRAME_ENTRIES = 200


def first_frame(window, hop):
    """The number of the first frame that reaches the sample 0."""
    need_window(window)
    need_hop(hop)
    return -((len(window) - 1) // hop)


def frames_of(window, hop, signal):
    """The frames from the first one that reaches the sample 0 to the last one that begins within the signal."""
    first = first_frame(window, hop)
    need_list(signal, MOST_SAMPLES)
    last = (len(signal) - 1) // hop
    return [_weighted(window, signal, frame * hop) for frame in range(first, last + 1)]


def samples_of(frames, hop, first, number):
    """The sums at the samples 0 to number - 1 of frames with the numbers first, first + 1 and so on."""
    _need_frames(frames)
    need_hop(hop)
    need_integer(first)
    need_number(number, 1, MOST_SAMPLES)
    return _sums_of(frames, hop, first, number)


def signal_back(window, hop, frames, number):
    """The samples 0 to number - 1 of the signal of these frames, or None where nothing is left of the window's sums."""
    first = first_frame(window, hop)
    _need_frames(frames)
    for frame in frames:
        if frame is not None and len(frame) != len(window):
            raise InvalidList("a frame is not as long as the window")
    need_number(number, 1, MOST_SAMPLES)
    sums = _sums_of(frames, hop, first, number)
    left = _sums_of([None if frame is None else window for frame in frames], hop, first, number)
    return [_sample(total, weight) for total, weight in zip(sums, left)]


class Joiner:
    """Joins frames that come one after the other, the first one at 0 and each next one a hop behind."""

    def __init__(self, hop):
        need_hop(hop)
        self._hop = hop
        self._frames = []

    def __len__(self):
        return len(self._frames)

    @property
    def seen(self):
        """How many frames were added or skipped."""
        return len(self._frames)

    @property
    def ready(self):
        """The sums at the samples that no later frame reaches."""
        return tuple(_sums_of(self._frames, self._hop, 0, self.seen * self._hop))

    @property
    def pending(self):
        """The sums behind these, up to the end of the last frame."""
        begin = self.seen * self._hop
        ends = [number * self._hop + len(frame) for number, frame in enumerate(self._frames) if frame is not None]
        return _sums_of(self._frames, self._hop, 0, max([begin] + ends))[begin:]

    def add(self, frame):
        """The next frame, as long as the other ones."""
        need_list(frame, MOST_FRAME_ENTRIES)
        for other in self._frames:
            if other is not None and len(other) != len(frame):
                raise InvalidList("the frame is not as long as those before")
        self._frames.append(list(frame))

    def skip(self):
        """The next frame is lost."""
        self._frames.append(None)

    def undo(self):
        """Takes the last frame, added or lost, back."""
        if len(self._frames) == 0:
            raise NothingToUndo("no frame was added or skipped")
        self._frames.pop()

    def twin(self):
        """A joiner with the same frames that goes its own way from here."""
        other = Joiner(self._hop)
        other._frames = list(self._frames)
        return other


def _need_frames(frames):
    if not isinstance(frames, list) or not 1 <= len(frames) <= MOST_FRAMES:
        raise InvalidList(f"no list of 1 to {MOST_FRAMES} frames")
    for frame in frames:
        if frame is not None and not is_integer_list(frame, MOST_FRAME_ENTRIES):
            raise InvalidList(f"a frame is neither a list of 1 to {MOST_FRAME_ENTRIES} integers nor None")


def _weighted(window, signal, begin):
    """The frame at begin: each entry of the window times the sample under it, 0 outside of the signal."""
    samples = [signal[at] if 0 <= at < len(signal) else 0 for at in range(begin, begin + len(window))]
    return [entry * sample for entry, sample in zip(window, samples)]


def _sums_of(frames, hop, first, number):
    pieces = [((first + k) * hop, frame) for k, frame in enumerate(frames) if frame is not None]
    return laid(pieces, number)


def _sample(total, weight):
    """The sample whose product with the weight is the total, or None for the weight 0."""
    if weight == 0 and total == 0:
        return None
    if weight == 0 or total % weight != 0:
        raise InvalidList("the frames are not those of a signal")
    return total // weight
