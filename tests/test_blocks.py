"""[13]: decks, their blocks and their streams."""

import itertools
import unittest

from decks import (
    GREAT, SMALL, has_ends, made, plain_followers, plain_follows, plain_step, plain_window, streams_up_to,
    walked_stream, wrong_streams,
)
from frameseams.blocks import Deck
from frameseams.errors import InvalidDeck, InvalidNumber, InvalidStream
from frameseams.windows import is_window
from helpers import LONG, a_deck, outcome, spoil, wrong_lists

ALL = SMALL + GREAT


def edges_of(*parts):
    return [list(part) for part in parts]


class Parts(unittest.TestCase):
    def test_level_edges_and_kinds(self):
        for level, edges, kinds in ALL:
            deck = Deck(level, edges, kinds)
            self.assertEqual((deck.level, deck.edges, deck.kinds), (level, edges, kinds))
            self.assertTrue(all(type(kind) is tuple for kind in deck.kinds))
            self.assertTrue(all(type(edge) is list for edge in deck.edges))
            self.assertIs(type(deck.level), int)

    def test_by_name(self):
        self.assertEqual(Deck(kinds=[(0, 1, 0)], edges=[[2]], level=3), Deck(3, [[2]], [(0, 1, 0)]))

    def test_parts_are_no_methods(self):
        deck = made(SMALL[5])
        for name in ("level", "edges", "kinds"):
            with self.assertRaises(AttributeError):
                setattr(deck, name, getattr(deck, name))

    def test_a_list_that_was_passed(self):
        for level, edges, kinds in ALL:
            passed, kept_kinds = [list(edge) for edge in edges], list(kinds)
            deck = Deck(level, passed, kept_kinds)
            for edge in passed:
                edge.append(5)
            passed.append([1])
            kept_kinds[0] = (0, 99, 0)
            kept_kinds.append((0, 7, 0))
            self.assertEqual((deck.level, deck.edges, deck.kinds), (level, edges, kinds))
            self.assertEqual(deck.window_of(0), plain_window((level, edges, kinds), 0))

    def test_each_list_that_was_told(self):
        for parts in ALL:
            deck = made(parts)
            stream = walked_stream(parts, 5, 1)
            told = [
                deck.edges, deck.kinds, deck.window_of(0), deck.followers(0), deck.sums_of(stream), deck.edges,
            ]
            for one in told:
                if one:
                    spoil(one)
            self.assertEqual((deck.level, deck.edges, deck.kinds), parts)
            self.assertEqual(deck, made(parts))
            self.assertEqual(deck.window_of(0), plain_window(parts, 0))

    def test_told_lists_are_new(self):
        edge = [1, 2]
        deck = Deck(1, [edge, edge, edge], [(0, 1, 0)])
        told = [deck.edges, deck.edges, deck.kinds, deck.kinds, *deck.edges, *deck.edges]
        held = deck.edges
        told.extend([held, *held])
        self.assertEqual(len({id(one) for one in told}), len(told))
        self.assertNotIn(id(edge), [id(one) for one in told])


class Equality(unittest.TestCase):
    def test_equal_decks(self):
        for parts in ALL:
            self.assertTrue(made(parts) == made(parts))
            self.assertFalse(made(parts) != made(parts))
            self.assertIs(made(parts) == made(parts), True)
            deck = made(parts)
            self.assertTrue(deck == deck)

    def test_decks_that_differ_in_one_thing(self):
        parts = (4, [[1, 2], [3], [3]], [(0, 1, 1), (1, 0, 2)])
        deck = Deck(*parts)
        for other in [
            (5, parts[1], parts[2]), (-4, parts[1], parts[2]), (4, [[1, 2], [3], [4]], parts[2]),
            (4, [[1, 2], [3], [3], []], parts[2]), (4, [[1, 2], [3, 0], [3]], parts[2]),
            (4, [[2, 1], [3], [3]], parts[2]), (4, [[3], [1, 2], [3]], parts[2]), (4, parts[1], [(0, 1, 1)]),
            (4, parts[1], [(0, 1, 1), (1, 0, 1)]), (4, parts[1], [(0, 1, 1), (2, 0, 2)]),
            (4, parts[1], [(0, 1, 1), (1, 1, 2)]), (4, parts[1], [(1, 0, 2), (0, 1, 1)]),
            (4, parts[1], [(0, 1, 1), (1, 0, 2), (1, 0, 2)]),
        ]:
            self.assertIs(deck == Deck(*other), False, other)
            self.assertIs(Deck(*other) == deck, False, other)
            self.assertIs(deck != Deck(*other), True, other)

    def test_any_object_on_the_right(self):
        deck = made(SMALL[0])
        for thing in [*wrong_lists(), SMALL[0], list(SMALL[0]), [], 1, a_deck(), [deck]]:
            self.assertIs(deck == thing, False, thing)
            self.assertIs(deck != thing, True, thing)

    def test_all_pairs(self):
        for one, other in itertools.product(ALL, repeat=2):
            self.assertIs(made(one) == made(other), one is other)


class Blocks(unittest.TestCase):
    def test_windows_told_by_hand(self):
        deck = Deck(4, [[1, 2, 3], [], [5, -1]], [(0, 2, 0), (1, 1, 0), (0, 0, 1), (2, 3, 2), (1, 1, 1)])
        windows = [[1, 2, 3, 4, 4, 3, 2, 1], [4, 3, 2, 1], [1, 2, 3], [5, -1, 4, 4, 4, -1, 5], [4]]
        self.assertEqual([deck.window_of(kind) for kind in range(5)], windows)
        self.assertEqual([deck.step_of(kind) for kind in range(5)], [5, 1, 3, 5, 1])
        self.assertEqual([deck.length_of(kind) for kind in range(5)], [8, 4, 3, 7, 1])
        self.assertEqual([deck.followers(kind) for kind in range(5)], [[0, 2], [0, 2], [1, 4], [3], [1, 4]])
        self.assertIs(deck.follows(0, 2), True)
        self.assertIs(deck.follows(2, 0), False)

    def test_against_plain_laying(self):
        for parts in ALL:
            deck = made(parts)
            for kind in range(len(parts[2])):
                window = plain_window(parts, kind)
                self.assertEqual(deck.window_of(kind), window)
                self.assertEqual(deck.step_of(kind), plain_step(parts, kind))
                self.assertEqual(deck.length_of(kind), len(window))
                self.assertEqual(deck.followers(kind), plain_followers(parts, kind))
                for other in range(len(parts[2])):
                    self.assertIs(deck.follows(kind, other), plain_follows(parts, kind, other))

    def test_longest_window(self):
        deck = Deck(1, [[2] * 60], [(0, 100, 0)])
        self.assertEqual(deck.window_of(0), [2] * 60 + [1] * 100 + [-1] * 60)
        self.assertEqual((deck.step_of(0), deck.length_of(0)), (160, 220))

    def test_window_of_zeros(self):
        deck = Deck(0, [[0, 0]], [(0, 3, 0)])
        self.assertEqual(deck.window_of(0), [0] * 7)
        self.assertIs(is_window(deck.window_of(0)), False)

    def test_numbers_of_no_kind(self):
        for parts in ALL:
            deck, many = made(parts), len(parts[2])
            for wrong in (-1, -many, many, many + 1, LONG, -LONG, True, False):
                for call in (deck.window_of, deck.step_of, deck.length_of, deck.followers):
                    self.assertEqual(outcome(call, wrong), ("error", InvalidNumber))
                self.assertEqual(outcome(deck.follows, wrong, 0), ("error", InvalidNumber))
                self.assertEqual(outcome(deck.follows, 0, wrong), ("error", InvalidNumber))
                self.assertEqual(outcome(deck.follows, wrong, wrong), ("error", InvalidNumber))


class Streams(unittest.TestCase):
    def test_all_small_lists(self):
        for parts in SMALL:
            deck, many = made(parts), len(parts[2])
            streams = streams_up_to(parts, 3)
            for blocks in (1, 2, 3):
                for kinds in itertools.product(range(-1, many + 1), repeat=blocks):
                    self.assertIs(deck.is_stream([*kinds]), [*kinds] in streams, kinds)

    def test_sums_against_plain_laying(self):
        for parts in ALL:
            for blocks in (1, 2, 3, 7, 20):
                for seed in range(4):
                    self.check_sums(parts, walked_stream(parts, blocks, seed))
        for parts in SMALL:
            for stream in streams_up_to(parts, 4):
                self.check_sums(parts, stream)

    def check_sums(self, parts, stream):
        level, edges, kinds = parts
        deck = made(parts)
        plain = {}
        begin = 0
        for kind in stream:
            for i, entry in enumerate(plain_window(parts, kind)):
                plain[begin + i] = plain.get(begin + i, 0) + entry
            begin += plain_step(parts, kind)
        sums = deck.sums_of(stream)
        self.assertEqual(sums, [plain[sample] for sample in range(len(plain))])
        self.assertEqual(deck.steps_of(stream), begin)
        rise, fall = len(edges[kinds[stream[0]][0]]), len(edges[kinds[stream[-1]][2]])
        self.assertEqual(len(sums), begin + fall)
        self.assertEqual(sums[rise:begin], [level] * (begin - rise))
        self.assertEqual(sums[:rise], edges[kinds[stream[0]][0]][:begin])

    def test_both_sides_of_the_length(self):
        for parts in (SMALL[0], SMALL[1], GREAT[0]):
            deck = made(parts)
            step = plain_step(parts, 0)
            for many in (1, 399, 400):
                self.assertIs(deck.is_stream([0] * many), True)
                self.assertEqual(deck.steps_of([0] * many), many * step)
            self.assertEqual(len(deck.sums_of([0] * 400)), 400 * step + len(parts[1][0]))
            for many in (0, 401, 402, 4000):
                self.assertIs(deck.is_stream([0] * many), False)
                for call in (deck.steps_of, deck.sums_of):
                    self.assertEqual(outcome(call, [0] * many), ("error", InvalidStream))

    def test_anything_else(self):
        deck = made(SMALL[5])
        for thing in wrong_streams() + wrong_lists():
            self.assertIs(deck.is_stream(thing), False, thing)
            for call in (deck.steps_of, deck.sums_of):
                self.assertEqual(outcome(call, thing), ("error", InvalidStream), thing)

    def test_kinds_that_follow_are_asked_for_throughout(self):
        deck = made(SMALL[5])
        stream = [0, 1, 2, 3] * 100
        self.assertIs(deck.is_stream(stream), True)
        for place in (0, 1, 2, 57, 398, 399):
            changed = list(stream)
            changed[place] = (changed[place] + 2) % 4
            self.assertIs(deck.is_stream(changed), False, place)
            self.assertEqual(outcome(deck.steps_of, changed), ("error", InvalidStream))


class Reaches(unittest.TestCase):
    def check(self, parts):
        """By going on from edge to edge: as many blocks as there are kinds are enough."""
        _, edges, kinds = parts
        deck = made(parts)
        for rise in range(len(edges)):
            reached = [k for k in range(len(kinds)) if edges[kinds[k][0]] == edges[rise]]
            for _ in kinds:
                more = {other for k in reached for other in plain_followers(parts, k)}
                reached = sorted({*reached, *more})
            ends = [edges[kinds[k][2]] for k in reached]
            for fall in range(len(edges)):
                self.assertIs(deck.reaches(rise, fall), edges[fall] in ends, (parts, rise, fall))

    def test_by_going_on(self):
        for parts in ALL:
            self.check(parts)

    def test_by_all_short_streams(self):
        for parts in SMALL:
            streams = streams_up_to(parts, 5)
            deck = made(parts)
            for rise, fall in itertools.product(range(len(parts[1])), repeat=2):
                expected = any(has_ends(parts, stream, rise, fall) for stream in streams)
                self.assertIs(deck.reaches(rise, fall), expected, (parts, rise, fall))

    def test_told_by_hand(self):
        # A chain; an edge that equals the first one; one that no kind begins with.
        deck = Deck(1, [[1], [2], [3], [1], [4]], [(0, 0, 1), (1, 0, 2), (2, 0, 4)])
        told = [[deck.reaches(rise, fall) for fall in range(5)] for rise in range(5)]
        self.assertEqual(told, [
            [False, True, True, False, True], [False, False, True, False, True], [False, False, False, False, True],
            [False, True, True, False, True], [False] * 5,
        ])
        # A block alone; no stream is without blocks.
        for edges, told in [([[1], [2]], [False, True, False, False]), ([[1], [1]], [True] * 4)]:
            deck = Deck(1, edges, [(0, 0, 1)])
            self.assertEqual([deck.reaches(*both) for both in ((0, 0), (0, 1), (1, 0), (1, 1))], told)

    def test_long_chain(self):
        edges = [[k] for k in range(20)]
        deck = Deck(1, edges, [(k, 0, k + 1) for k in range(19)])
        for rise, fall in itertools.product(range(20), repeat=2):
            self.assertIs(deck.reaches(rise, fall), rise < fall)

    def test_numbers_of_no_edge(self):
        for parts in ALL:
            deck, many = made(parts), len(parts[1])
            for wrong in (-1, -many, many, many + 1, LONG, -LONG, True, False):
                self.assertEqual(outcome(deck.reaches, wrong, 0), ("error", InvalidNumber))
                self.assertEqual(outcome(deck.reaches, 0, wrong), ("error", InvalidNumber))


class WrongDecks(unittest.TestCase):
    def check(self, *parts):
        self.assertEqual(outcome(Deck, *parts), ("error", InvalidDeck), parts)

    def test_limits_from_inside(self):
        for parts in [
            (0, [[]], [(0, 1, 0)]), (0, [[]] * 20, [(19, 100, 19)] * 30), (1, [[1] * 60] * 20, [(0, 0, 19)]),
            (1, [[], [1]], [(1, 0, 0)]), (LONG, [[-LONG]], [(0, 0, 0)]),
        ]:
            self.assertEqual(outcome(Deck, *parts), ("value", Deck(*parts)))

    def test_levels(self):
        for level in [None, True, False, "1", "", [], [1], (1,), {}, {"a": 1}, a_deck(), InvalidDeck("x")]:
            self.check(level, [[1]], [(0, 1, 0)])

    def test_edges(self):
        for edges in [
            [], [[]] * 21, [[1]] * 21, [[1] * 61], [[], [1] * 61], [[0] * 4000], ([1],), ((1,),), [(1,)], [()],
            [[1], (1,)], [[True]], [[1, False]], [[1], [True]], [[None]], [["1"]], ["1"], [1], [[1], 1], [[1], None],
            [[[1]]], [{}], [[1], {"a": 1}], [a_deck()], [[a_deck()]], None, True, 0, "", "1", {}, {"a": [1]}, a_deck(),
        ]:
            self.check(1, edges, [(0, 1, 0)])

    def test_kinds(self):
        for kind in [
            [0, 1, 0], [], (), (0,), (0, 1), (0, 1, 0, 0), (0, 1, 0, 1), (2, 1, 0), (0, 1, 2), (-1, 1, 0), (0, 1, -1),
            (-2, 1, 0), (0, -1, 0), (0, 101, 0), (0, LONG, 0), (1, -1, 0), (1, 101, 1), (LONG, 1, 0), (0, 1, -LONG),
            (0, 0, 0), (0, 0, 1), (True, 1, 0), (0, True, 0), (0, 1, True), (False, 1, 0), (1, False, 0), (0, 1, False),
            (None, 1, 0), (0, None, 0), (0, 1, None), ("0", 1, 0), (0, "1", 0), ([0], 1, 0), (0, (1,), 0), (0, 1, [0]),
            None, True, 0, "010", "", {}, {"a": 1}, a_deck(), (a_deck(), 1, 0), [(0, 1, 0)], ((0, 1, 0),),
        ]:
            for kinds in ([kind], [(0, 1, 0), kind], [kind, (1, 0, 0)], [(1, 0, 0)] * 29 + [kind]):
                self.check(1, [[], [5]], kinds)

    def test_flat_below_0(self):
        # The edge alone is long enough for a step.
        for flat in (-1, -2, -100):
            self.check(1, [[1] * 60], [(0, flat, 0)])

    def test_lists_of_kinds(self):
        for kinds in [
            [], [(0, 1, 0)] * 31, [(0, 1, 0)] * 4000, ((0, 1, 0),), (0, 1, 0), None, True, 0, "", "0/1/0", {},
            {"a": []},
            a_deck(), [0, 1, 0],
        ]:
            self.check(1, [[], [5]], kinds)

    def test_kinds_whose_step_is_0(self):
        self.check(1, [[], [1]], [(0, 0, 1)])
        self.check(1, [[1], []], [(0, 0, 1), (1, 0, 0)])
        self.assertEqual(Deck(1, [[], [1]], [(0, 1, 1), (1, 0, 0)]).step_of(1), 1)

    def test_several_wrong_ones(self):
        for level, edges, kinds in itertools.product((1, True, None), ([[1]], [], None), ([(0, 1, 0)], [], None)):
            if [type(level), edges, kinds] != [int, [[1]], [(0, 1, 0)]]:
                self.check(level, edges, kinds)


if __name__ == "__main__":
    unittest.main()
