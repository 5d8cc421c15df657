"""[2], for every function: wrong arguments, names, and that nothing is shared or changed."""

import inspect
import itertools
import unittest

from frameseams import rests, windows
from frameseams.errors import InvalidHop, InvalidNumber, InvalidWindow
from helpers import LONG, kept, lists_in, outcome, same, some_wrong_windows, spoil

SAMPLES = [[1], [1, 2, 2, 1], [0, -3, 0], [LONG, -LONG], [1] * 20]


def wrong_lists_of_windows():
    return [None, True, "1", [], [1], [[1]] * 9, [[0]], ([1],), [[1], [True]], {"a": [1]}]


def wrong_numbers(least, most):
    return [least - 1, most + 1, -LONG, LONG, True, False]


# For each function: its file, its arguments, the error of each one, wrong values and values that may be passed.
WINDOW = (InvalidWindow, some_wrong_windows)
HOP = (InvalidHop, lambda: wrong_numbers(1, 1000))
CALLS = {
    windows.total_of: [("window", *WINDOW)],
    windows.product_of: [("window", *WINDOW), ("other", *WINDOW)],
    windows.stretched: [("window", *WINDOW), ("by", InvalidNumber, lambda: [0, -1, -LONG, True, False])],
    windows.phases_of: [("window", *WINDOW), ("by", InvalidNumber, lambda: wrong_numbers(1, 200))],
    windows.turned_round: [("window", *WINDOW)],
    windows.flat_window: [("hop", InvalidHop, lambda: wrong_numbers(1, 200))],
    windows.laid_over: [
        ("window", *WINDOW), ("other", *WINDOW), ("offset", InvalidNumber, lambda: [-1, -LONG, 200, LONG, True]),
    ],
    windows.laid_in_turn: [("windows", InvalidWindow, wrong_lists_of_windows), ("hop", *HOP)],
    rests.rest_sums: [("window", *WINDOW), ("hop", *HOP)],
    rests.is_even: [("window", *WINDOW), ("hop", *HOP)],
    rests.uneven_rests: [("window", *WINDOW), ("hop", *HOP)],
    rests.level_at: [("window", *WINDOW), ("hop", *HOP)],
    rests.hops_of: [("window", *WINDOW)],
    rests.greatest_hop: [("window", *WINDOW)],
}
NAMES = {call: [name for name, _, _ in places] for call, places in CALLS.items()}
NAMES[windows.is_window] = ["thing"]
GOOD = {
    "thing": SAMPLES + [None, [], (1, 2), {"a": [1]}], "window": SAMPLES, "other": SAMPLES, "by": [1, 2, 5],
    "offset": [0, 1, 4], "hop": [1, 2, 3, 7], "windows": [[[1, 2]], [[1, 2], [3], [0, 1]], [[1, 1]] * 8],
}


def good_arguments(call):
    return [kept(args) for args in itertools.product(*[GOOD[name] for name in NAMES[call]])]


class Interface(unittest.TestCase):
    def test_names_and_arguments(self):
        for call, names in NAMES.items():
            with self.subTest(call.__name__):
                parameters = inspect.signature(call).parameters
                self.assertEqual(list(parameters), names)
                for one in parameters.values():
                    self.assertEqual(one.kind, inspect.Parameter.POSITIONAL_OR_KEYWORD)
                    self.assertIs(one.default, inspect.Parameter.empty)

    def test_defined_in_their_files(self):
        told = {
            windows: [
                "is_window", "total_of", "product_of", "stretched", "phases_of", "turned_round", "flat_window",
                "laid_over", "laid_in_turn",
            ],
            rests: ["rest_sums", "is_even", "uneven_rests", "level_at", "hops_of", "greatest_hop"],
        }
        for module, names in told.items():
            for name in names:
                self.assertEqual(getattr(module, name).__module__, module.__name__)
                self.assertIn(getattr(module, name), NAMES)


class WrongArguments(unittest.TestCase):
    def test_first_wrong_one_decides(self):
        for call, places in CALLS.items():
            # Every choice of wrong values for some of the arguments and a good one for the others.
            choices = [[(None, GOOD[name][1])] + [(error, wrong) for wrong in make()] for name, error, make in places]
            for choice in itertools.product(*choices):
                wrong = [error for error, _ in choice if error is not None]
                if not wrong:
                    continue
                args = [value for _, value in choice]
                named = dict(zip(NAMES[call], args))
                # No subTest: the first failure ends the test, ahead of long numbers that take long if they pass.
                self.assertEqual(outcome(call, *args), ("error", wrong[0]), (call.__name__, args))
                self.assertEqual(outcome(call, **named), ("error", wrong[0]), (call.__name__, args))

    def test_arguments_that_are_refused_stay_as_they_were(self):
        for call, places in CALLS.items():
            for at, (_, _, make) in enumerate(places):
                for wrong in make():
                    args = [GOOD[name][1] for name in NAMES[call]]
                    args[at] = wrong
                    before = kept(args)
                    self.assertEqual(outcome(call, *args)[0], "error", (call.__name__, args))
                    self.assertTrue(same(args, before))


class GoodArguments(unittest.TestCase):
    def test_by_position_or_by_name(self):
        for call, names in NAMES.items():
            for args in good_arguments(call):
                expected = outcome(call, *args)
                named = dict(zip(names, args))
                backwards = dict(reversed(list(named.items())))
                with self.subTest(call=call.__name__, args=args):
                    self.assertTrue(same(outcome(call, **named), expected))
                    self.assertTrue(same(outcome(call, **backwards), expected))
                    rest_by_name = {name: named[name] for name in names[1:]}
                    self.assertTrue(same(outcome(call, args[0], **rest_by_name), expected))

    def test_what_is_passed_stays_as_it_was(self):
        for call in NAMES:
            for args in good_arguments(call):
                before = kept(args)
                outcome(call, *args)
                self.assertTrue(same(args, before), call.__name__)

    def test_equal_calls_return_equal_results(self):
        for call in NAMES:
            for args in good_arguments(call):
                first = outcome(call, *args)
                held = kept(first)
                spoil(first[1])
                self.assertTrue(same(outcome(call, *args), held), call.__name__)
                self.assertTrue(same(outcome(call, *kept(args)), held), call.__name__)

    def test_returned_lists_are_new(self):
        for call in NAMES:
            for args in good_arguments(call):
                first, second = outcome(call, *args), outcome(call, *args)
                lists = lists_in(first[1]) + lists_in(second[1])
                passed = lists_in(args)
                numbers = [id(one) for one in lists]
                with self.subTest(call=call.__name__, args=args):
                    self.assertEqual(len(numbers), len(set(numbers)))
                    self.assertFalse(set(numbers) & {id(one) for one in passed})

    def test_results_do_not_change_with_what_was_passed(self):
        for call in NAMES:
            for args in good_arguments(call):
                result = outcome(call, *args)
                held = kept(result)
                spoil(args)
                self.assertTrue(same(result, held), call.__name__)

    def test_what_is_returned_may_be_passed_back(self):
        window = windows.product_of([LONG, 1, LONG], [LONG, -LONG])
        self.assertGreater(window[0], 10 ** 50)
        for call in NAMES:
            if NAMES[call][0] in ("window", "thing"):
                rest = [{"other": [1, 1], "by": 2, "offset": 1, "hop": 1}[name] for name in NAMES[call][1:]]
                self.assertEqual(outcome(call, window, *rest)[0], "value", call.__name__)
        self.assertEqual(outcome(windows.laid_in_turn, [window, window], 1)[0], "value")


if __name__ == "__main__":
    unittest.main()
