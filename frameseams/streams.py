"""The streams of a deck with given ends and steps: how many there are, their sequence, and the shortest ones."""

from frameseams.blocks import MOST_BLOCKS
from frameseams.checks import is_within, need_number
from frameseams.errors import InvalidIndex

GREATEST_STEPS = 400


def count_streams(deck, rise, fall, steps):
    """How many streams begin with edge rise, end with edge fall and have so many steps."""
    _need_ends(deck, rise, fall, steps)
    rise, fall = _least_alike(deck.edges, [rise, fall])
    return _ways_to(fall, steps, _paths_of(deck))[steps].get(rise, 0)


def nth_stream(deck, rise, fall, steps, index):
    """The one of these streams with the index, in the ascending sequence of lists."""
    if not is_within(index, 0, count_streams(deck, rise, fall, steps) - 1):
        raise InvalidIndex("no stream has this index")
    edge, end = _least_alike(deck.edges, [rise, fall])
    paths = _paths_of(deck)
    ways = _ways_to(end, steps, paths)
    stream = []
    left = steps
    before = index
    while left > 0:
        kind = 0
        for many in _ways_with(edge, left, ways, paths):
            if before < many:
                break
            before -= many
            kind += 1
        stream.append(kind)
        _, step, edge = paths[kind]
        left -= step
    return stream


def stream_index(deck, stream):
    """The index of the stream among those with its own ends and steps."""
    steps = deck.steps_of(stream)
    paths = _paths_of(deck)
    if steps > MOST_BLOCKS * min([path[1] for path in paths]):
        return _index_of_many_steps(stream, steps, paths)
    ways = _ways_to(paths[stream[-1]][2], steps, paths)
    index = 0
    left = steps
    for kind in stream:
        edge, step, _ = paths[kind]
        index += sum(_ways_with(edge, left, ways, paths)[:kind])
        left -= step
    return index


def fewest_blocks(deck, rise, fall, steps):
    """The least number of blocks of these streams, or None."""
    _need_ends(deck, rise, fall, steps)
    rise, fall = _least_alike(deck.edges, [rise, fall])
    return _fewest_to(fall, steps, _paths_of(deck))[steps].get(rise)


def a_stream(deck, rise, fall, steps):
    """One of these streams with so few blocks, or None."""
    if fewest_blocks(deck, rise, fall, steps) is None:
        return None
    edge, end = _least_alike(deck.edges, [rise, fall])
    paths = _paths_of(deck)
    fewest = _fewest_to(end, steps, paths)
    stream = []
    left = steps
    while left > 0:
        further = fewest[left][edge] - 1
        for kind, (begin, step, goal) in enumerate(paths):
            if begin == edge and step <= left and fewest[left - step].get(goal) == further:
                stream.append(kind)
                break
        _, step, edge = paths[stream[-1]]
        left -= step
    return stream


def _need_ends(deck, rise, fall, steps):
    last = len(deck.edges) - 1
    need_number(rise, 0, last)
    need_number(fall, 0, last)
    need_number(steps, 1, GREATEST_STEPS)


def _least_alike(edges, numbers):
    """For each of the numbers the least number of an edge that equals the one with this number."""
    return [edges.index(edges[number]) for number in numbers]


def _paths_of(deck):
    """For each kind the tuple of its rise, its step and its fall; equal edges have the same number here."""
    edges = deck.edges
    paths = []
    for kind, (rise, _, fall) in enumerate(deck.kinds):
        begin, goal = _least_alike(edges, [rise, fall])
        paths.append((begin, deck.step_of(kind), goal))
    return paths


def _ways_to(end, steps, paths):
    """A list: at left, how many ways of left steps lead from each edge to the end; edges without one are left out."""
    ways = [{end: 1}]
    for left in range(1, steps + 1):
        found = {}
        for begin, step, goal in paths:
            if step <= left and goal in ways[left - step]:
                found[begin] = found.get(begin, 0) + ways[left - step][goal]
        ways.append(found)
    return ways


def _ways_with(edge, left, ways, paths):
    """For each kind, how many of the ways of left steps from the edge begin with it."""
    return [
        ways[left - step].get(goal, 0) if begin == edge and step <= left else 0
        for begin, step, goal in paths
    ]


def _fewest_to(end, steps, paths):
    """A list: at left, the least number of blocks of the ways of left steps from each edge to the end."""
    fewest = [{end: 0}]
    for left in range(1, steps + 1):
        found = {}
        for begin, step, goal in paths:
            if step <= left and goal in fewest[left - step]:
                many = fewest[left - step][goal] + 1
                found[begin] = min([many, found.get(begin, many)])
        fewest.append(found)
    return fewest


def _index_of_many_steps(stream, steps, paths):
    """The index of a stream whose steps are enough for lists that have more blocks than a stream may have."""
    end = paths[stream[-1]][2]
    ways = {edge: [0] * (steps + 1) for begin, _, goal in paths for edge in (begin, goal)}
    index = 0
    left = 0
    # From the last block that a stream may have, so that the ways behind each block are those of as many as are left.
    for place in reversed(range(MOST_BLOCKS)):
        ways = _ways_with_one_more(ways, end, steps, paths)
        if place < len(stream):
            edge, own_step, _ = paths[stream[place]]
            left += own_step
            for begin, step, goal in paths[:stream[place]]:
                if begin == edge and step <= left:
                    index += ways[goal][left - step]
    return index


def _ways_with_one_more(ways, end, steps, paths):
    """For each edge a list: at left, how many ways of left steps lead to the end, with one block more than in ways."""
    more = {edge: [0] * (steps + 1) for edge in ways}
    more[end][0] = 1
    for begin, step, goal in paths:
        more[begin] = [many + added for many, added in zip(more[begin], [0] * step + ways[goal])]
    return more
