"""Decks of blocks of different lengths, and the streams in which their windows join without seams."""

from frameseams.checks import is_integer, is_integer_list, is_within, need_number
from frameseams.entries import laid
from frameseams.errors import InvalidDeck, InvalidStream

MOST_EDGES = 20
MOST_EDGE_ENTRIES = 60
MOST_KINDS = 30
GREATEST_FLAT = 100
MOST_BLOCKS = 400


class Deck:
    """A level, edges that rise to it and fall from it, and the kinds of blocks that are made of them."""

    def __init__(self, level, edges, kinds):
        if not is_integer(level) or not _are_edges(edges) or not _are_kinds(kinds, edges):
            raise InvalidDeck("the level, the edges or the kinds make no deck")
        self._level = level
        self._edges = [list(edge) for edge in edges]
        self._kinds = list(kinds)

    def __eq__(self, other):
        return (
            isinstance(other, Deck) and self._level == other._level
            and self._edges == other._edges and self._kinds == other._kinds
        )

    @property
    def level(self):
        return self._level

    @property
    def edges(self):
        return [list(edge) for edge in self._edges]

    @property
    def kinds(self):
        return list(self._kinds)

    def window_of(self, kind):
        """The entries of the rise, flat times the level, the level less each entry of the fall."""
        flat = self._kind_at(kind)[1]
        falling = [self._level - entry for entry in self._fall_of(kind)]
        return self._rise_of(kind) + [self._level] * flat + falling

    def step_of(self, kind):
        """How many samples behind the block's begin the next one begins."""
        return len(self._rise_of(kind)) + self._kind_at(kind)[1]

    def length_of(self, kind):
        return self.step_of(kind) + len(self._fall_of(kind))

    def follows(self, kind, next_kind):
        """Whether next_kind rises by what kind falls by."""
        return self._fall_of(kind) == self._rise_of(next_kind)

    def followers(self, kind):
        """The ascending list of the kinds that follow."""
        return [next_kind for next_kind in range(len(self._kinds)) if self.follows(kind, next_kind)]

    def is_stream(self, thing):
        if not is_integer_list(thing, MOST_BLOCKS):
            return False
        if not all([is_within(kind, 0, len(self._kinds) - 1) for kind in thing]):
            return False
        return all([self.follows(kind, next_kind) for kind, next_kind in zip(thing, thing[1:])])

    def steps_of(self, stream):
        """The sum of all steps."""
        self._need_stream(stream)
        return sum([self.step_of(kind) for kind in stream])

    def sums_of(self, stream):
        """The sums of all windows at the samples from 0 to the end of the last one."""
        pieces = []
        # The last block reaches furthest: a block's fall ends with the next one's rise.
        end = self.steps_of(stream) + len(self._fall_of(stream[-1]))
        begin = 0
        for kind in stream:
            pieces.append((begin, self.window_of(kind)))
            begin += self.step_of(kind)
        return laid(pieces, end)

    def reaches(self, rise, fall):
        """Whether some stream begins with an edge that equals edge rise and ends with one that equals edge fall."""
        need_number(rise, 0, len(self._edges) - 1)
        need_number(fall, 0, len(self._edges) - 1)
        kinds = range(len(self._kinds))
        waiting = [kind for kind in kinds if self._rise_of(kind) == self._edges[rise]]
        reached = {kind: True for kind in waiting}
        while waiting:
            kind = waiting.pop()
            if self._fall_of(kind) == self._edges[fall]:
                return True
            further = [next_kind for next_kind in self.followers(kind) if next_kind not in reached]
            for next_kind in further:
                reached[next_kind] = True
            waiting = waiting + further
        return False

    def _kind_at(self, kind):
        need_number(kind, 0, len(self._kinds) - 1)
        return self._kinds[kind]

    def _rise_of(self, kind):
        return self._edges[self._kind_at(kind)[0]]

    def _fall_of(self, kind):
        return self._edges[self._kind_at(kind)[2]]

    def _need_stream(self, stream):
        if not self.is_stream(stream):
            raise InvalidStream("no list of kinds of which each one follows the one before")


def is_edge(thing):
    return is_integer_list(thing, MOST_EDGE_ENTRIES, 0)


def is_kind(thing, edges):
    """Whether thing is a kind of blocks for these edges."""
    if not isinstance(thing, tuple) or len(thing) != 3:
        return False
    rise, flat, fall = thing
    if not is_within(rise, 0, len(edges) - 1) or not is_within(fall, 0, len(edges) - 1):
        return False
    return is_within(flat, 0, GREATEST_FLAT) and len(edges[rise]) + flat >= 1


def _are_edges(thing):
    if not isinstance(thing, list) or not 1 <= len(thing) <= MOST_EDGES:
        return False
    return all([is_edge(edge) for edge in thing])


def _are_kinds(thing, edges):
    if not isinstance(thing, list) or not 1 <= len(thing) <= MOST_KINDS:
        return False
    return all([is_kind(kind, edges) for kind in thing])
