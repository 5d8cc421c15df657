"""Decks for several tests, and what the document says of their blocks and streams, laid out plainly."""

import random

from frameseams.blocks import Deck
from helpers import LONG

# Level, edges and kinds of decks whose streams can be gone over: equal edges, empty ones, one kind, no follower.
SMALL = [
    (1, [[]], [(0, 1, 0)]),
    (4, [[1, 2, 3]], [(0, 0, 0)]),
    (4, [[1, 2, 3], [2]], [(0, 2, 0), (0, 1, 1)]),
    (0, [[], []], [(0, 1, 1), (1, 2, 0), (0, 3, 0)]),
    (-3, [[5], [5], []], [(0, 0, 1), (1, 1, 2), (2, 1, 0), (2, 2, 2)]),
    (7, [[1], [2], [1], []], [(0, 0, 1), (1, 0, 2), (2, 1, 3), (3, 1, 0), (3, 1, 3), (1, 0, 1)]),
    (2, [[0], [0, 0], [0]], [(0, 0, 1), (1, 0, 2), (2, 0, 0), (0, 0, 2)]),
    (1, [[1], [2], [3]], [(0, 1, 1), (0, 0, 1)]),
    (LONG, [[], [LONG, -LONG]], [(0, 1, 1), (1, 0, 0), (0, 1, 1), (1, 1, 1)]),
    (5, [[], [1], [1, 2]], [(0, 1, 0), (0, 1, 1), (1, 0, 0), (1, 0, 1), (1, 0, 2), (2, 0, 0), (0, 2, 0)]),
]


def drawn_deck(seed, many_edges, many_kinds, longest):
    """Level, edges and kinds of a greater deck; some of the edges are equal."""
    draw = random.Random(seed)
    lengths = [draw.randint(0, longest) for _ in range(many_edges // 2 + 1)]
    pool = [[draw.choice((0, 1, -1, 9, LONG, -LONG)) for _ in range(length)] for length in lengths]
    edges = [list(draw.choice(pool)) for _ in range(many_edges)]
    kinds = []
    while len(kinds) < many_kinds:
        rise, flat, fall = draw.randrange(many_edges), draw.choice((0, 1, 2, 100)), draw.randrange(many_edges)
        if len(edges[rise]) + flat >= 1:
            kinds.append((rise, flat, fall))
    return (draw.choice((0, 1, -8, LONG, -LONG)), edges, kinds)


GREAT = [
    (3, [[1] * 60], [(0, 100, 0)] * 30),
    (-LONG, [[k] * k for k in range(20)], [(k, 1, (k + 1) % 20) for k in range(20)] + [(0, 100, k) for k in range(10)]),
    (0, [[]] * 20, [(k % 20, 1 + k, 19 - k % 20) for k in range(30)]),
    drawn_deck(1, 20, 30, 60), drawn_deck(2, 20, 30, 3), drawn_deck(3, 7, 12, 5), drawn_deck(4, 3, 30, 2),
]


def made(parts):
    return Deck(*parts)


def plain_window(parts, kind):
    level, edges, kinds = parts
    rise, flat, fall = kinds[kind]
    return [*edges[rise], *[level] * flat, *[level - entry for entry in edges[fall]]]


def plain_step(parts, kind):
    _, edges, kinds = parts
    return len(edges[kinds[kind][0]]) + kinds[kind][1]


def plain_follows(parts, kind, next_kind):
    _, edges, kinds = parts
    return edges[kinds[kind][2]] == edges[kinds[next_kind][0]]


def plain_followers(parts, kind):
    return [next_kind for next_kind in range(len(parts[2])) if plain_follows(parts, kind, next_kind)]


def streams_up_to(parts, blocks):
    """All streams of at most so many blocks, by adding each kind that follows."""
    last = [[kind] for kind in range(len(parts[2]))]
    found = list(last)
    for _ in range(blocks - 1):
        last = [stream + [kind] for stream in last for kind in plain_followers(parts, stream[-1])]
        found.extend(last)
    return found


def streams_of_steps(parts, steps):
    """All streams with so many steps, each step being at least 1."""
    open_ones = [[kind] for kind in range(len(parts[2]))]
    found = []
    while open_ones:
        stream = open_ones.pop()
        total = sum(plain_step(parts, kind) for kind in stream)
        if total == steps:
            found.append(stream)
        elif total < steps:
            open_ones.extend(stream + [kind] for kind in plain_followers(parts, stream[-1]))
    return sorted(found)


def walked_stream(parts, blocks, seed):
    """A stream of at most so many blocks, going on at random as long as a kind follows."""
    draw = random.Random(seed)
    stream = [draw.randrange(len(parts[2]))]
    while len(stream) < blocks and plain_followers(parts, stream[-1]):
        stream.append(draw.choice(plain_followers(parts, stream[-1])))
    return stream


def has_ends(parts, stream, rise, fall):
    """Whether the stream begins with an edge that equals edge rise and ends with one that equals edge fall."""
    _, edges, kinds = parts
    return edges[kinds[stream[0]][0]] == edges[rise] and edges[kinds[stream[-1]][2]] == edges[fall]


def wrong_streams():
    """Objects that are no streams of the deck of SMALL with the number 5: no lists, no kinds, no followers."""
    return [
        None, True, 0, LONG, "", "0", (), (0,), (0, 1), {}, {"a": [0]}, [], [True], [False], [0, True], [0, False],
        [-1], [6], [0, 6], [0, -1], [LONG], [None], ["0"], [0, "1"], [[0]], [0, [1]], [(0,)], [[]], [0, None],
        [0, 0], [2, 0], [3, 1], [0, 1, 3], [4, 4, 5], [4] * 401, [4] * 400 + [3], [4] * 4000, Deck(*SMALL[0]),
        [Deck(*SMALL[5])],
    ]
