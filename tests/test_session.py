"""[18]: sessions: their lines, the answers, and what changes the window."""

import itertools
import random
import sys
import unittest

from frameseams.errors import InvalidHop, InvalidWindow, NoPartner, NotEven
from frameseams.marks import marks_of, order_at
from frameseams.partners import least_partner
from frameseams.rests import hops_of, level_at, rest_sums
from frameseams.session import session
from frameseams.windows import is_window, product_of
from helpers import LONG

WINDOW = "window 1 2 2 1"
# Lines that change nothing and their answers for the window of that line.
TOLD = [
    ("hops", "1 2 3"), ("marks", "2 3"), ("rests 1", "6"), ("rests 2", "3 3"), ("rests 3", "2 2 2"),
    ("rests 5", "1 2 2 1 0"), ("rests 1000", "1 2 2 1" + " 0" * 996), ("level 1", "6"), ("level 2", "3"),
    ("level 3", "2"), ("level 4", "NotEven"), ("level 1000", "NotEven"), ("order 2", "1"), ("order 3", "1"),
    ("order 4", "0"), ("order 1000", "0"), ("partner 2 1", "1 0 0 1"), ("partner 2 0", "0 0 0 0"),
    ("partner 2 -1", "-1 0 0 -1"), ("partner 3 2", "1 1 1 1"), ("partner 3 1", "NoPartner"),
    ("partner 4 2", "2 1 1 2"), ("partner 4 3", "NoPartner"), ("partner 5 1", "NoPartner"),
    ("partner 5 0", "0 0 0 0"), ("partner 1 1", "InvalidHop"), ("partner 0 1", "InvalidHop"),
    ("partner 1001 1", "InvalidHop"), ("partner -2 1", "InvalidHop"), ("rests 0", "InvalidHop"),
    ("rests -1", "InvalidHop"), ("rests 1001", "InvalidHop"), ("level 0", "InvalidHop"), ("level 1001", "InvalidHop"),
    ("order 0", "InvalidHop"), ("order 1", "InvalidHop"), ("order -2", "InvalidHop"), ("order 1001", "InvalidHop"),
    (f"rests {LONG}", "InvalidHop"), (f"level -{LONG}", "InvalidHop"),
    (f"partner 2 {LONG}", "20000000000000000000000000001 40000000000000000000000000003 "
     "40000000000000000000000000003 20000000000000000000000000001"),
    (f"partner 3 {LONG}", "NoPartner"), ("back", "NothingToUndo"),
]
# Lines that are no lines.
UNKNOWN = [
    "", " ", "  ", "hops ", " hops", "hops  ", "hop", "Hops", "HOPS", "hopsx", "hops 2", "hops hops", "marks 2",
    "marks  ", "mark", "rests", "rests ", "rests  2", "rests 2 ", " rests 2", "rests 2 3", "rests x", "rests 02",
    "rests +2", "rests -0", "rests 2.0", "rests 1_0", "rests " + "1" * 31, "rests -" + "9" * 31, "rests two",
    "rests 2,3", "level", "level 2 2", "level x", "level 002", "level -", "order", "order 2 2", "order x",
    "order 0x2", "partner", "partner 2", "partner 2 1 1", "partner x 1", "partner 2 x", "partner 2 01",
    "partner 02 1", "partner 2 -0", "partner 2  1", "partner 2 1 ", "partner 2 " + "9" * 31, "back 1", "back ",
    " back", "back back", "backs", "times", "times ", "times  1", "times 1 ", "times 1  2", " times 1", "time 1",
    "times1", "window", "window ", "window  ", "window  1", "window 1 ", "window 1  2", " window 1", "windows 1",
    "Window 1", "window1", "1 2 2 1", "1", "?", "-", "ok", "quit", "help", "hops;", "hops hops 2", "2 rests", "rests,2",
]
# Window lines that are refused.
REFUSED = [
    ("window x", "InvalidText"), ("window 1 x", "InvalidText"), ("window x 1", "InvalidText"),
    ("window 01", "InvalidText"), ("window -0", "InvalidText"), ("window +1", "InvalidText"),
    ("window 1,2", "InvalidText"), ("window 1.5", "InvalidText"), ("window " + "1" * 31, "InvalidText"),
    ("window 1_0", "InvalidText"), ("window e1", "InvalidText"), ("window 1 ~", "InvalidText"),
    ("window" + " 1" * 401, "InvalidText"), ("window" + " 0" * 401, "InvalidText"),
    ("window window 1", "InvalidText"), ("window" + " 1" * 201, "InvalidWindow"),
    ("window" + " 1" * 400, "InvalidWindow"), ("window 0", "InvalidWindow"), ("window 0 0 0", "InvalidWindow"),
    ("window" + " 0" * 200, "InvalidWindow"), ("window" + " 0" * 400, "InvalidWindow"), ("window 0 0 x", "InvalidText"),
]


def answers(lines):
    told = session("\n".join(lines))
    assert type(told) is str
    return told.split("\n")


class Plain:
    """A session by the words of the document, for lines that are made of right words."""

    def __init__(self):
        self.windows = []

    def answer(self, word, numbers):
        if word == "window":
            if not is_window(numbers):
                return "InvalidWindow"
            self.windows = [numbers]
            return "ok"
        if not self.windows:
            return "?"
        window = self.windows[-1]
        if word == "times":
            if not is_window(numbers) or len(numbers) + len(window) > 201:
                return "InvalidWindow"
            self.windows.append(product_of(window, numbers))
            return "ok"
        if word == "back":
            if len(self.windows) < 2:
                return "NothingToUndo"
            self.windows.pop()
            return "ok"
        return self.told(window, word, numbers)

    def told(self, window, word, numbers):
        calls = {
            "hops": hops_of, "marks": marks_of, "rests": rest_sums, "level": level_at, "order": order_at,
            "partner": least_partner,
        }
        try:
            told = calls[word](window, *numbers)
        except (InvalidHop, InvalidWindow, NotEven, NoPartner) as why:
            return type(why).__name__
        told = told if isinstance(told, list) else [told]
        return " ".join(str(number) for number in told) or "-"


class Lines(unittest.TestCase):
    def test_told_by_hand(self):
        for line, answer in TOLD:
            self.assertEqual(answers([WINDOW, line]), ["ok", answer], line)
            self.assertEqual(answers([WINDOW, line, "rests 4"]), ["ok", answer, "1 2 2 1"], line)
            self.assertEqual(answers([WINDOW, "times 1", line, "rests 4"])[3], "1 2 2 1", line)

    def test_ahead_of_the_first_window(self):
        for line in [line for line, _ in TOLD] + UNKNOWN + ["times 1", "times x", "times 0", "times 1 1", "back"]:
            self.assertEqual(answers([line]), ["?"], line)
            self.assertEqual(answers([line, WINDOW, "back", "hops"]), ["?", "ok", "NothingToUndo", "1 2 3"], line)

    def test_unknown_lines(self):
        for line in UNKNOWN:
            self.assertEqual(answers([line]), ["?"], line)
            self.assertEqual(answers([WINDOW, line, "rests 4"]), ["ok", "?", "1 2 2 1"], line)
            told = answers([WINDOW, "times 1 1", line, "rests 1", "back", "rests 4"])
            self.assertEqual(told[2:], ["?", "12", "ok", "1 2 2 1"], line)

    def test_refused_windows(self):
        for line, answer in REFUSED:
            self.assertEqual(answers([line, "hops"]), [answer, "?"], line)
            told = answers([WINDOW, "times 1 1", line, "rests 5", "back", "rests 4"])
            self.assertEqual(told, ["ok", "ok", answer, "1 3 4 3 1", "ok", "1 2 2 1"], line)

    def test_refused_times(self):
        for line, answer in REFUSED:
            if line != "window window 1":
                told = answers([WINDOW, line.replace("window", "times"), "rests 4", "back"])
                self.assertEqual(told, ["ok", answer, "1 2 2 1", "NothingToUndo"], line)

    def test_times_that_would_be_too_long(self):
        for many, others in [(200, 2), (101, 101), (2, 200), (1, 201), (150, 52)]:
            told = answers(["window" + " 1" * many, "times" + " 1" * others, "rests 1", "back"])
            self.assertEqual(told, ["ok", "InvalidWindow", str(many), "NothingToUndo"])
        for many, others in [(200, 1), (100, 101), (2, 199), (1, 200)]:
            told = answers(["window" + " 1" * many, "times" + " 1" * others, "rests 1", "back", "rests 1"])
            self.assertEqual(told, ["ok", "ok", str(many * others), "ok", str(many)])

    def test_no_numbers(self):
        for window in ("1", "-5", "1 -1", "1 0 0 3", f"{LONG}", "0 1"):
            self.assertEqual(answers([f"window {window}", "marks", "hops"]), ["ok", "-", "1"])
        self.assertEqual(answers(["window 0 1 1", "marks"]), ["ok", "2"])

    def test_negative_and_long_numbers(self):
        self.assertEqual(answers([f"window -1 0 {LONG}", "rests 3", "level 1"]), ["ok", f"-1 0 {LONG}", f"{LONG - 1}"])
        lines = [f"window {LONG} {LONG}", f"times -{LONG} {LONG} {LONG}"]
        lines += ["rests 4", "level 2", "order 2", "partner 4 0"]
        square = LONG * LONG
        told = ["ok", "ok", f"-{square} 0 {2 * square} {square}", f"{square}", "1", "0 0 0 0"]
        self.assertEqual(answers(lines), told)

    def test_windows_as_long_as_they_may_be(self):
        numbers = [k * k - 5000 for k in range(200)]
        told = answers(["window " + " ".join(map(str, numbers)), "rests 200", "hops", "level 1"])
        self.assertEqual(told, ["ok", " ".join(map(str, numbers)), "1", str(sum(numbers))])
        told = answers(["window" + " 1" * 120, "hops", "order 120", "level 120", "marks"])
        divisors = [d for d in range(1, 121) if 120 % d == 0]
        self.assertEqual(told[1:4], [" ".join(map(str, divisors)), "1", "1"])
        self.assertEqual(told[4], " ".join(map(str, divisors[1:])))


class Changes(unittest.TestCase):
    def test_told_by_hand(self):
        lines = [
            "window 1 1", "times 1 1", "times 1 0 1", "rests 5", "back", "rests 3", "times 2", "rests 3", "back",
            "back", "rests 2", "back", "rests 2", "window 5", "back", "hops", "times 3", "rests 1", "window 7",
            "back", "rests 1", "back",
        ]
        told = [
            "ok", "ok", "ok", "1 2 2 2 1", "ok", "1 2 1", "ok", "2 4 2", "ok", "ok", "1 1", "NothingToUndo", "1 1",
            "ok", "NothingToUndo", "1", "ok", "15", "ok", "NothingToUndo", "7", "NothingToUndo",
        ]
        self.assertEqual(answers(lines), told)

    def test_several_deep(self):
        lines = ["window 1"] + ["times 1 1"] * 30 + ["rests 1"] + ["back", "rests 1"] * 31
        told = ["ok"] * 31 + [str(2 ** 30)]
        for left in reversed(range(30)):
            told += ["ok", str(2 ** left)]
        self.assertEqual(answers(lines), told + ["NothingToUndo", "1"])

    def test_back_behind_a_times_line_that_does_not_hold(self):
        lines = ["window 1 1", "times 1 2", "times x", "times 0", "times 1 ", "back", "rests 2", "back"]
        told = ["ok", "ok", "InvalidText", "InvalidWindow", "?", "ok", "1 1", "NothingToUndo"]
        self.assertEqual(answers(lines), told)

    def test_back_behind_window_lines(self):
        lines = ["window 1 1", "times 1 2", "window 0", "back", "rests 2", "times 3", "window 4", "back", "rests 1"]
        self.assertEqual(answers(lines), ["ok", "ok", "InvalidWindow", "ok", "1 1", "ok", "ok", "NothingToUndo", "4"])

    def test_any_lines(self):
        draw = random.Random(19)
        for _ in range(400):
            plain, lines, told = Plain(), [], []
            for _ in range(draw.randint(1, 30)):
                word, numbers = self.drawn_line(draw)
                lines.append(" ".join([word, *map(str, numbers)]))
                told.append(plain.answer(word, numbers))
            self.assertEqual(answers(lines), told, lines)

    def drawn_line(self, draw):
        words = ("window", "times", "times", "times", "back", "hops", "marks", "rests", "level", "order", "partner")
        word = draw.choice(words)
        if word in ("window", "times"):
            return word, [draw.choice((0, 1, 1, 2, -1, LONG)) for _ in range(draw.choice((1, 2, 2, 3, 5, 50)))]
        if word in ("back", "hops", "marks"):
            return word, []
        numbers = [draw.choice((0, 1, 2, 2, 3, 4, 6, 100, 1000, 1001))]
        return word, numbers + [draw.choice((0, 1, 2, -6, LONG))] * (word == "partner")


class WholeSessions(unittest.TestCase):
    def test_empty_lines(self):
        self.assertEqual(session(""), "?")
        self.assertEqual(session("\n"), "?\n?")
        self.assertEqual(session(WINDOW + "\n"), "ok\n?")
        self.assertEqual(session("\n" + WINDOW + "\n\nhops"), "?\nok\n?\n1 2 3")

    def test_one_line_for_each(self):
        for many in (1, 2, 99, 100):
            self.assertEqual(answers([WINDOW] * many), ["ok"] * many)
            self.assertEqual(answers(["hops"] * many), ["?"] * many)
            self.assertEqual(answers([WINDOW] + ["hops"] * (many - 1)), ["ok"] + ["1 2 3"] * (many - 1))

    def test_sessions_do_not_share_windows(self):
        self.assertEqual(session(WINDOW), "ok")
        self.assertEqual(session("hops"), "?")
        self.assertEqual(session("back"), "?")

    def test_equal_sessions_have_equal_answers(self):
        rows = "\n".join([WINDOW, "times 1 1", "partner 3 12", "marks", "back", "back", "rests 2"])
        self.assertEqual(session(rows), session(rows))
        self.assertEqual(session(rows=rows), session(rows))

    def test_answers_with_many_digits(self):
        # Within 100 lines and 8,000 characters, and beyond, where the numbers are longer than Python likes to write.
        nines = 10 ** 30 - 1
        for many in (50, 97, 160, 161):
            lines = [f"window {nines}"] + [f"times -{nines}"] * many + ["rests 1", "rests 2"]
            told = answers(lines)
            number = nines * (-nines) ** many
            self.assertEqual(told[:-2], ["ok"] * (many + 1))
            self.assertEqual(told[-2], self.digits_of(number))
            self.assertEqual(told[-1], self.digits_of(number) + " 0")

    def digits_of(self, number):
        limit = sys.get_int_max_str_digits()
        sys.set_int_max_str_digits(0)
        try:
            return str(number)
        finally:
            sys.set_int_max_str_digits(limit)

    def test_zeros_inside_of_long_numbers(self):
        for digits in (29, 59, 60, 61, 119, 120, 121, 180):
            lines, left = ["window 1"], digits
            while left:
                lines.append(f"times {10 ** min(left, 29)}")
                left -= min(left, 29)
            self.assertEqual(answers(lines + ["rests 1"])[-1], "1" + "0" * digits)
            self.assertEqual(answers(["window -1"] + lines[1:] + ["rests 1"])[-1], "-1" + "0" * digits)

    def test_partners_of_windows_in_pairs(self):
        for hop, level in itertools.product((2, 3, 4, 5), (-4, 0, 1, 6, 12)):
            expected = Plain().told([3, 1, 2, -4], "partner", [hop, level])
            self.assertEqual(answers(["window 3 1 2 -4", f"partner {hop} {level}"]), ["ok", expected])


if __name__ == "__main__":
    unittest.main()
