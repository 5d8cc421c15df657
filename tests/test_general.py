"""[2], for every function: wrong arguments, names, and that nothing is shared or changed."""

import inspect
import itertools
import unittest

from decks import wrong_streams
from frameseams import (
    blocks, counts, divisors, frames, lists, losses, marks, partners, rests, session, streams, texts, windows,
)
from frameseams.blocks import Deck
from frameseams.errors import (
    InvalidDeck, InvalidHop, InvalidHops, InvalidIndex, InvalidList, InvalidNumber, InvalidStream, InvalidWindow,
)
from frameseams.frames import Joiner
from helpers import (
    LONG, a_deck, a_joiner, kept, lists_in, outcome, same, some_wrong_lists, some_wrong_windows, spoil, wrong_lists,
    wrong_lists_of_hops, wrong_windows,
)

SAMPLES = [[1], [1, 2, 2, 1], [0, -3, 0], [LONG, -LONG], [1] * 20]


def wrong_lists_of_windows():
    return [None, True, "1", [], [1], [[1]] * 9, [[0]], ([1],), [[1], [True]], {"a": [1]}]


def wrong_numbers(least, most):
    return [least - 1, most + 1, -LONG, LONG, True, False]


def some_wrong_lists_of_hops():
    return [None, True, (2, 3), "2 3", [], [2, True], [2, [3]], [1] * 7, [201], [0], {"a": [2]}]


def some_wrong_streams():
    return [None, True, (0,), "0", [], [True], [[0]], [0, 0], [6], [4] * 401, {"a": [0]}, a_deck()]


def some_wrong_lists_of_frames():
    return [None, True, ([1],), "1", [], [1], [None, True], [[]], [[1], [True]], [[1] * 201], [None] * 801, a_deck()]


def some_wrong_lists_of_lost_frames():
    return [None, True, (1,), "1", 3, [True], [[1]], [1, 1], [2, 1], list(range(401)), {"a": [1]}, a_joiner()]


def wrong_levels_of_decks():
    return [None, True, False, "1", "", [], [1], (1,), {}, {"a": 1}, a_deck()]


def wrong_edges():
    return [
        None, True, "1", 1, (), ((1,),), [], [1], [[1], None], [(1,)], [[True]], [[1] * 61], [[]] * 21, {}, a_deck(),
    ]


def wrong_kinds():
    return [
        None, True, "0/1/0", 0, (), (0, 1, 0), [], [[0, 1, 0]], [(0, 1)], [(0, 1, 0, 0)], [(0, True, 0)], [(4, 1, 0)],
        [(0, 1, -1)], [(0, 101, 0)], [(3, 0, 0)], [(0, 1, 0)] * 31, [None], {}, a_deck(),
    ]


# For each function: its arguments, the error of each one, and wrong values for it.
WINDOW = (InvalidWindow, some_wrong_windows)
HOP = (InvalidHop, lambda: wrong_numbers(1, 1000))
HOPS = (InvalidHops, some_wrong_lists_of_hops)
MARK = (InvalidNumber, lambda: wrong_numbers(2, 1000))
LEVEL = (InvalidNumber, lambda: [True, False])
LENGTH = (InvalidNumber, lambda: wrong_numbers(1, 40))
MOST = (InvalidNumber, lambda: wrong_numbers(1, 30))
SUMS = (InvalidList, lambda: some_wrong_lists() + [[0] * 201])
SHORT_HOP = (InvalidHop, lambda: wrong_numbers(1, 200))
# A deck is always one; the numbers of its edges and kinds are those of the deck that is the second good one below.
DECK = (None, lambda: [])
EDGE = (InvalidNumber, lambda: wrong_numbers(0, 3))
KIND = (InvalidNumber, lambda: wrong_numbers(0, 5))
STEPS = (InvalidNumber, lambda: wrong_numbers(1, 400))
STREAM = (InvalidStream, some_wrong_streams)
SIGNAL = (InvalidList, lambda: some_wrong_lists() + [[1] * 401])
FRAMES = (InvalidList, some_wrong_lists_of_frames)
NUMBER = (InvalidNumber, lambda: wrong_numbers(1, 400))
LOST = (InvalidNumber, lambda: wrong_numbers(0, 400))
AT_STEPS = [("deck", *DECK), ("rise", *EDGE), ("fall", *EDGE), ("steps", *STEPS)]
CALLS = {
    windows.total_of: [("window", *WINDOW)],
    windows.product_of: [("window", *WINDOW), ("other", *WINDOW)],
    windows.stretched: [("window", *WINDOW), ("by", InvalidNumber, lambda: [0, -1, -LONG, True, False])],
    windows.phases_of: [("window", *WINDOW), ("by", InvalidNumber, lambda: wrong_numbers(1, 200))],
    windows.turned_round: [("window", *WINDOW)],
    windows.flat_window: [("hop", InvalidHop, lambda: wrong_numbers(1, 200))],
    windows.laid_over: [
        ("window", *WINDOW), ("other", *WINDOW), ("offset", InvalidNumber, lambda: [-1, -LONG, 200, LONG, True]),
    ],
    windows.laid_in_turn: [("windows", InvalidWindow, wrong_lists_of_windows), ("hop", *HOP)],
    rests.rest_sums: [("window", *WINDOW), ("hop", *HOP)],
    rests.is_even: [("window", *WINDOW), ("hop", *HOP)],
    rests.uneven_rests: [("window", *WINDOW), ("hop", *HOP)],
    rests.level_at: [("window", *WINDOW), ("hop", *HOP)],
    rests.hops_of: [("window", *WINDOW)],
    rests.greatest_hop: [("window", *WINDOW)],
    marks.marks_of: [("window", *WINDOW)],
    marks.has_mark: [("window", *WINDOW), ("mark", *MARK)],
    # The mark is 3 where only the rest is wrong.
    marks.crossing: [("window", *WINDOW), ("mark", *MARK), ("rest", InvalidNumber, lambda: wrong_numbers(0, 2))],
    marks.first_crossing: [("window", *WINDOW), ("mark", *MARK)],
    marks.multiplicity: [("window", *WINDOW), ("mark", *MARK)],
    marks.order_at: [("window", *WINDOW), ("hop", InvalidHop, lambda: wrong_numbers(2, 1000))],
    marks.moments: [("window", *WINDOW), ("hop", *HOP), ("power", InvalidNumber, lambda: wrong_numbers(0, 20))],
    divisors.mark_list: [("mark", InvalidNumber, lambda: wrong_numbers(2, 1000) + [211, 997])],
    divisors.least_window: [("hops", *HOPS)],
    divisors.sight: [("hops", *HOPS)],
    divisors.common_hops: [("hops", *HOPS)],
    divisors.quotient: [("window", *WINDOW), ("hop", *HOP)],
    divisors.quotient_by: [("window", *WINDOW), ("hops", *HOPS)],
    divisors.unseen: [("hops", *HOPS)],
    counts.count_even: [("length", *LENGTH), ("hop", *HOP), ("most", *MOST)],
    counts.count_at_level: [("length", *LENGTH), ("hop", *HOP), ("most", *MOST), ("level", *LEVEL)],
    # With the other arguments as they are below there are two windows.
    counts.nth_even: [
        ("length", *LENGTH), ("hop", *HOP), ("most", *MOST), ("index", InvalidIndex, lambda: wrong_numbers(0, 1)),
    ],
    counts.even_index: [("window", *WINDOW), ("hop", *HOP), ("most", *MOST)],
    partners.rest_divisors: [("window", *WINDOW), ("hop", *HOP)],
    partners.least_level: [("window", *WINDOW), ("hop", *HOP)],
    partners.blocking_rest: [("window", *WINDOW), ("hop", *HOP), ("level", *LEVEL)],
    partners.has_partner: [("window", *WINDOW), ("hop", *HOP), ("level", *LEVEL)],
    partners.partner_of: [("window", *WINDOW), ("hop", *HOP), ("level", *LEVEL)],
    # The window has four entries where only the hop is wrong.
    partners.least_partner: [
        ("window", *WINDOW), ("hop", InvalidHop, lambda: wrong_numbers(2, 1000)), ("level", *LEVEL),
    ],
    partners.pair_level: [
        ("window", *WINDOW), ("other", InvalidWindow, lambda: some_wrong_windows() + [[1, 2, 2]]), ("hop", *HOP),
    ],
    partners.pair_moves: [("window", *WINDOW), ("hop", *HOP)],
    partners.free_numbers: [("window", *WINDOW), ("hop", *HOP)],
    # Where only by, length, first or second is wrong, sums has two entries, and hop is 2.
    lists.folded: [("sums", *SUMS), ("by", InvalidNumber, lambda: [0, -1, 3, -2, 4, LONG, True, False])],
    lists.agree: [("sums", *SUMS), ("other", *SUMS)],
    lists.first_clash: [("sums", *SUMS), ("other", *SUMS)],
    lists.told_back: [("sums", *SUMS), ("other", *SUMS), ("length", InvalidNumber, lambda: wrong_numbers(1, 4))],
    lists.some_list: [("sums", *SUMS), ("other", *SUMS), ("length", InvalidNumber, lambda: wrong_numbers(1, 400))],
    lists.has_ring: [
        ("first", *SHORT_HOP), ("second", *SHORT_HOP), ("length", InvalidNumber, lambda: wrong_numbers(1, 400)),
    ],
    lists.ring_of: [("first", *SHORT_HOP), ("second", *SHORT_HOP)],
    Deck: [
        ("level", InvalidDeck, wrong_levels_of_decks), ("edges", InvalidDeck, wrong_edges),
        ("kinds", InvalidDeck, wrong_kinds),
    ],
    Deck.window_of: [("self", *DECK), ("kind", *KIND)],
    Deck.step_of: [("self", *DECK), ("kind", *KIND)],
    Deck.length_of: [("self", *DECK), ("kind", *KIND)],
    Deck.follows: [("self", *DECK), ("kind", *KIND), ("next_kind", *KIND)],
    Deck.followers: [("self", *DECK), ("kind", *KIND)],
    Deck.steps_of: [("self", *DECK), ("stream", *STREAM)],
    Deck.sums_of: [("self", *DECK), ("stream", *STREAM)],
    Deck.reaches: [("self", *DECK), ("rise", *EDGE), ("fall", *EDGE)],
    streams.count_streams: AT_STEPS,
    # With the other arguments as they are below there are two streams.
    streams.nth_stream: AT_STEPS + [("index", InvalidIndex, lambda: wrong_numbers(0, 1))],
    streams.stream_index: [("deck", *DECK), ("stream", *STREAM)],
    streams.fewest_blocks: AT_STEPS,
    streams.a_stream: AT_STEPS,
    losses.least_left: [("window", *WINDOW), ("hop", *HOP), ("lost", *LOST)],
    losses.least_left_run: [("window", *WINDOW), ("hop", *HOP), ("lost", *LOST)],
    losses.fewest_harm: [
        ("window", InvalidWindow, lambda: some_wrong_windows() + [[1, -1], [1, 1, -1, -1]]), ("hop", *HOP),
    ],
    # Where only the end is wrong, begin is -3.
    losses.left_sums: [
        ("window", *WINDOW), ("hop", *HOP), ("lost", InvalidList, some_wrong_lists_of_lost_frames),
        ("begin", InvalidNumber, lambda: [True, False]),
        ("end", InvalidNumber, lambda: [-4, 398, LONG, -LONG, True, False]),
    ],
    frames.first_frame: [("window", *WINDOW), ("hop", *HOP)],
    frames.frames_of: [("window", *WINDOW), ("hop", *HOP), ("signal", *SIGNAL)],
    frames.samples_of: [
        ("frames", *FRAMES), ("hop", *HOP), ("first", InvalidNumber, lambda: [True, False]), ("number", *NUMBER),
    ],
    frames.signal_back: [
        ("window", *WINDOW), ("hop", *HOP), ("frames", InvalidList, lambda: FRAMES[1]() + [[[1, 2, 3]]]),
        ("number", *NUMBER),
    ],
    Joiner: [("hop", *HOP)],
    Joiner.add: [("self", *DECK), ("frame", InvalidList, lambda: some_wrong_lists() + [[1] * 201, [1, 2, 3], [1]])],
}
NAMES = {call: [name for name, _, _ in places] for call, places in CALLS.items()}
NAMES[windows.is_window] = ["thing"]
NAMES[Deck.is_stream] = ["self", "thing"]
NAMES[Joiner.skip] = NAMES[Joiner.undo] = NAMES[Joiner.twin] = ["self"]
NAMES[texts.write_list] = ["numbers"]
NAMES[texts.write_deck] = ["deck"]
NAMES[texts.read_list] = NAMES[texts.read_deck] = ["text"]
NAMES[session.session] = ["rows"]
# Calls that change the object; tests/test_frames.py tells how. All others leave what they are passed as it was.
CHANGING = [Joiner.add, Joiner.skip, Joiner.undo]
STEADY = [call for call in NAMES if call not in CHANGING]
# For each class its methods and its properties.
CLASSES = {
    Deck: (
        [
            "window_of", "step_of", "length_of", "follows", "followers", "is_stream", "steps_of", "sums_of", "reaches",
        ],
        ["level", "edges", "kinds"],
    ),
    Joiner: (["add", "skip", "undo", "twin"], ["seen", "ready", "pending"]),
}
EDGES = [[1], [2], [1], []]
DECKS = [
    Deck(LONG, [[]], [(0, 1, 0)]),
    Deck(7, EDGES, [(0, 0, 1), (1, 0, 2), (2, 1, 3), (3, 1, 0), (3, 1, 3), (1, 0, 1)]),
]
# Values that may be passed; those with the number 1 go together in all functions.
GOOD = {
    "thing": SAMPLES + [None, [], (1, 2), {"a": [1]}], "window": SAMPLES, "other": SAMPLES, "by": [1, 2, 5],
    "sums": [[6], [3, 3], [0, LONG, -LONG]], "first": [1, 2, 200], "second": [1, 2, 6],
    "self": DECKS, "deck": DECKS, "kind": [0, 1, 5], "next_kind": [0, 1, 2], "rise": [0, 1, 3], "fall": [0, 1],
    "stream": [[0], [5, 5, 1], [0, 1, 0, 1]], "steps": [1, 2, 7],
    "edges": [[[1, 2]], EDGES, [[0] * 60] * 20], "kinds": [[(0, 1, 0)], [(0, 1, 3)] * 30],
    "lost": [0, 1, 400], "begin": [0, -3, LONG], "end": [5, 4, LONG + 2], "signal": [[3], [1, -2, LONG], [0] * 30],
    "frames": [[[4]], [[1, 2, 2, 1], None, [0, 0, 0, 0]], [None]], "number": [1, 2, 9],
    "frame": [[5], [7, 8], [0] * 200],
    "numbers": [[4], [1, -2, 0], [LONG] * 400], "text": ["1 2", "4 e1 0/1/0", "", "4 e x"],
    "rows": ["", "window 1 1\nhops\ntimes 1 -1\nlevel 3\nback\nback", "x"],
    "offset": [0, 1, 4], "hop": [1, 2, 3, 7], "windows": [[[1, 2]], [[1, 2], [3], [0, 1]], [[1, 1]] * 8],
    "mark": [2, 3, 30, 420], "rest": [0, 1, 2], "power": [0, 1, 3], "hops": [[1], [2, 3], [6, 4], [2, 1, 2]],
    "length": [1, 2, 5], "most": [1, 2, 4], "index": [0, 1, 5], "level": [0, 2, -6, LONG],
}
# Arguments with the names of others whose good values are different ones.
OWN = {
    losses.left_sums: {"lost": [[], [-1, 0, 7], list(range(400))]}, Joiner.add: {"self": [a_joiner()] * 2},
    Joiner.skip: {"self": [a_joiner()] * 2}, Joiner.undo: {"self": [a_joiner()] * 2},
    Joiner.twin: {"self": [Joiner(3), a_joiner()]},
}


def good_values(call, name):
    return OWN.get(call, {}).get(name, GOOD[name])


def second_good_ones(call):
    """The arguments that go together."""
    return [good_values(call, name)[1] for name in NAMES[call]]


def good_arguments(call):
    return [kept(args) for args in itertools.product(*[good_values(call, name) for name in NAMES[call]])]


class Interface(unittest.TestCase):
    def test_names_and_arguments(self):
        for call, names in NAMES.items():
            with self.subTest(call.__name__):
                parameters = inspect.signature(call).parameters
                self.assertEqual(list(parameters), names)
                for one in parameters.values():
                    self.assertEqual(one.kind, inspect.Parameter.POSITIONAL_OR_KEYWORD)
                    self.assertIs(one.default, inspect.Parameter.empty)

    def test_defined_in_their_files(self):
        told = {
            windows: [
                "is_window", "total_of", "product_of", "stretched", "phases_of", "turned_round", "flat_window",
                "laid_over", "laid_in_turn",
            ],
            rests: ["rest_sums", "is_even", "uneven_rests", "level_at", "hops_of", "greatest_hop"],
            marks: ["marks_of", "has_mark", "crossing", "first_crossing", "multiplicity", "order_at", "moments"],
            divisors: ["mark_list", "least_window", "sight", "common_hops", "quotient", "quotient_by", "unseen"],
            counts: ["count_even", "count_at_level", "nth_even", "even_index"],
            partners: [
                "rest_divisors", "least_level", "blocking_rest", "has_partner", "partner_of", "least_partner",
                "pair_level", "pair_moves", "free_numbers",
            ],
            lists: ["folded", "agree", "first_clash", "told_back", "some_list", "has_ring", "ring_of"],
            blocks: ["Deck"],
            streams: ["count_streams", "nth_stream", "stream_index", "fewest_blocks", "a_stream"],
            losses: ["least_left", "least_left_run", "fewest_harm", "left_sums"],
            frames: ["first_frame", "frames_of", "samples_of", "signal_back", "Joiner"],
            texts: ["write_list", "read_list", "write_deck", "read_deck"],
            session: ["session"],
        }
        for module, names in told.items():
            for name in names:
                self.assertEqual(getattr(module, name).__module__, module.__name__)
                self.assertIn(getattr(module, name), NAMES)
        many_methods = sum(len(methods) for methods, _ in CLASSES.values())
        self.assertEqual(len(NAMES), sum(len(names) for names in told.values()) + many_methods)

    def test_methods_and_properties_stand_in_their_class(self):
        for owner, (methods, properties) in CLASSES.items():
            for name in methods:
                self.assertIn(vars(owner)[name], NAMES)
            for name in properties:
                self.assertIsInstance(vars(owner)[name], property)
        self.assertIn("__eq__", vars(Deck))
        self.assertIn("__len__", vars(Joiner))


class WrongArguments(unittest.TestCase):
    def test_first_wrong_one_decides(self):
        for call, places in CALLS.items():
            # Every choice of wrong values for some of the arguments and a good one for the others.
            choices = [
                [(None, good_values(call, name)[1])] + [(error, wrong) for wrong in make()]
                for name, error, make in places
            ]
            for choice in itertools.product(*choices):
                wrong = [error for error, _ in choice if error is not None]
                if not wrong:
                    continue
                args = [value for _, value in choice]
                named = dict(zip(NAMES[call], args))
                # No subTest: the first failure ends the test, ahead of long numbers that take long if they pass.
                self.assertEqual(outcome(call, *args), ("error", wrong[0]), (call.__name__, args))
                self.assertEqual(outcome(call, **named), ("error", wrong[0]), (call.__name__, args))

    def test_any_object_in_each_place_for_one(self):
        makers = {
            some_wrong_windows: wrong_windows, some_wrong_lists_of_hops: wrong_lists_of_hops,
            some_wrong_streams: lambda: wrong_streams() + wrong_lists(),
            SUMS[1]: lambda: wrong_lists() + [[], [0] * 201],
        }
        for call, places in CALLS.items():
            for at, (_, error, make) in enumerate(places):
                for wrong in makers.get(make, make)():
                    args = second_good_ones(call)
                    args[at] = wrong
                    before = repr(args)
                    self.assertEqual(outcome(call, *args), ("error", error), (call.__name__, args))
                    self.assertEqual(repr(args), before)

    def test_arguments_that_are_refused_stay_as_they_were(self):
        for call, places in CALLS.items():
            for at, (_, _, make) in enumerate(places):
                for wrong in make():
                    args = second_good_ones(call)
                    args[at] = wrong
                    before = kept(args)
                    self.assertEqual(outcome(call, *args)[0], "error", (call.__name__, args))
                    self.assertTrue(same(args, before))


class GoodArguments(unittest.TestCase):
    def test_by_position_or_by_name(self):
        for call in STEADY:
            names = NAMES[call]
            for args in good_arguments(call):
                expected = outcome(call, *args)
                named = dict(zip(names, args))
                backwards = dict(reversed(list(named.items())))
                with self.subTest(call=call.__name__, args=args):
                    self.assertTrue(same(outcome(call, **named), expected))
                    self.assertTrue(same(outcome(call, **backwards), expected))
                    rest_by_name = {name: named[name] for name in names[1:]}
                    self.assertTrue(same(outcome(call, args[0], **rest_by_name), expected))

    def test_what_is_passed_stays_as_it_was(self):
        for call in STEADY:
            for args in good_arguments(call):
                before = kept(args)
                outcome(call, *args)
                self.assertTrue(same(args, before), call.__name__)

    def test_equal_calls_return_equal_results(self):
        for call in STEADY:
            for args in good_arguments(call):
                first = outcome(call, *args)
                held = kept(first)
                spoil(first[1])
                self.assertTrue(same(outcome(call, *args), held), call.__name__)
                self.assertTrue(same(outcome(call, *kept(args)), held), call.__name__)

    def test_returned_lists_are_new(self):
        for call in STEADY:
            for args in good_arguments(call):
                first, second = outcome(call, *args), outcome(call, *args)
                lists = lists_in(first[1]) + lists_in(second[1])
                passed = lists_in(args)
                numbers = [id(one) for one in lists]
                with self.subTest(call=call.__name__, args=args):
                    self.assertEqual(len(numbers), len(set(numbers)))
                    self.assertFalse(set(numbers) & {id(one) for one in passed})

    def test_results_do_not_change_with_what_was_passed(self):
        for call in STEADY:
            for args in good_arguments(call):
                result = outcome(call, *args)
                held = kept(result)
                spoil(args)
                self.assertTrue(same(result, held), call.__name__)

    def test_what_is_returned_may_be_passed_back(self):
        window = windows.product_of([LONG, 1, LONG], [LONG, -LONG])
        self.assertGreater(window[0], 10 ** 50)
        good = {
            "window": window, "thing": window, "other": window, "by": 2, "offset": 1, "hop": 1, "windows": [window] * 2,
            "mark": 3, "rest": 1, "power": 20, "hops": [1, 1], "level": partners.least_level(window, 1) * LONG ** 40,
            "sums": window, "length": 4, "edges": [window], "kinds": [(0, 0, 0)], "kind": 0, "next_kind": 0, "rise": 0,
            "fall": 0, "stream": [0], "steps": 4, "index": 0, "lost": 1, "begin": LONG ** 3, "end": LONG ** 3 + 400,
            "signal": window, "frames": frames.frames_of(window, 1, window), "number": 4, "first": -LONG ** 3,
            "frame": window, "numbers": window,
        }
        good["self"] = good["deck"] = Deck(good["level"], good["edges"], good["kinds"])
        level = partners.least_level(window, 4)
        own = {
            marks.order_at: {"hop": 2}, partners.least_partner: {"hop": 4, "level": level},
            losses.fewest_harm: {"window": [abs(entry) for entry in window]},
            losses.left_sums: {"lost": [-LONG ** 3, LONG ** 3 - 1, LONG ** 3]}, Joiner.add: {"self": Joiner(7)},
            Joiner.skip: {"self": Joiner(7)}, Joiner.undo: {"self": a_joiner()}, Joiner.twin: {"self": a_joiner()},
        }
        for call, names in NAMES.items():
            # What remains takes no lists, or only lists whose entries have an upper limit.
            if set(names) <= set(good):
                named = {name: good[name] for name in names} | own.get(call, {})
                self.assertEqual(outcome(call, **named)[0], "value", call.__name__)

    def test_returned_values_go_together(self):
        window = divisors.least_window([4, 6])
        for hop in divisors.common_hops([4, 6]):
            self.assertEqual(rests.level_at(divisors.unseen([4, 6]), hop), 0)
            level = partners.least_level(window, hop)
            self.assertEqual(partners.pair_level(window, partners.partner_of(window, hop, level), hop), level)
        index = counts.even_index(counts.nth_even(40, 1, 30, 31 ** 40 - 2), 1, 30)
        self.assertGreater(index, 10 ** 58)
        self.assertEqual(counts.nth_even(40, 1, 30, index), [30] * 40)
        self.assertEqual(counts.count_at_level(40, 1, 30, index), 0)
        ring = lists.ring_of(199, 200)
        sums = rests.rest_sums(lists.told_back([LONG] * 5, [LONG] * 5, 5), 5)
        self.assertEqual(lists.folded(sums, 1), [5 * LONG])
        self.assertEqual(lists.some_list(lists.folded(sums, 1), [LONG * 5], 1), [5 * LONG])
        self.assertEqual(len(ring), 399)
        deck = Deck(sum(sums), [sums, ring[:60]], [(0, 3, 1), (1, 0, 0)])
        again = Deck(deck.level, deck.edges, deck.kinds)
        self.assertEqual(again, deck)
        total = 5 * LONG + 3 * 5 * LONG + 60 * 5 * LONG - sum(ring[:60])
        self.assertEqual(rests.rest_sums(again.window_of(0), 1), [total])
        stream = streams.a_stream(again, 0, 0, 68)
        self.assertEqual(streams.stream_index(again, stream), 0)
        self.assertEqual(again.sums_of(stream)[5:68], [5 * LONG] * 63)


if __name__ == "__main__":
    unittest.main()
