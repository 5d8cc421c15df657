"""[17]: texts of lists and decks, there and back, and the first word that cannot stand where it stands."""

import itertools
import random
import re
import unittest

from decks import GREAT, SMALL, made
from frameseams.blocks import Deck
from frameseams.errors import InvalidText
from frameseams.texts import read_deck, read_list, write_deck, write_list
from helpers import LONG, same

NUMBER = re.compile("0|-?[1-9][0-9]{0,29}")
WRONG_NUMBERS = [
    "", "-", "--1", "-0", "+1", "+0", "00", "01", "-01", "007", "1_0", "_1", "1e5", "1.0", "0x1", "1,2", "1/2", "a",
    "x1", "1x", "e", "1-", "1-1", "(1)", "1" + "0" * 30, "-1" + "0" * 30, "9" * 31, "9" * 4000, "\n", "1\n", "\n1",
    "1\n2", "~", "None", "True", "one", "'1'", "1;", "1:2",
]
RIGHT_NUMBERS = [0, 1, -1, 9, 10, -10, 100, 10 ** 29 + 6, 10 ** 30 - 1, 7 - 10 ** 30, -(10 ** 29), LONG, -LONG, 400]


def place_of(call, text):
    """The place of the InvalidText that is raised, or None."""
    try:
        call(text)
    except InvalidText as why:
        assert type(why) is InvalidText and type(why.place) is int
        return why.place
    return None


def is_plain_number(word):
    return NUMBER.fullmatch(word) is not None


def plain_list_place(text):
    for place, word in enumerate(text.split(" ")):
        if place == 400 or not is_plain_number(word):
            return place
    return None


def plain_edge(word):
    """The entries of an edge's word, or None."""
    if not word.startswith("e"):
        return None
    parts = [] if word == "e" else word[1:].split(",")
    return parts if len(parts) <= 60 and all(is_plain_number(part) for part in parts) else None


def plain_kind(word, edges):
    """Whether the word is a kind's for these edges."""
    parts = word.split("/")
    if len(parts) != 3 or not all(is_plain_number(part) for part in parts):
        return False
    rise, flat, fall = map(int, parts)
    if rise not in range(len(edges)) or fall not in range(len(edges)) or flat not in range(101):
        return False
    return len(edges[rise]) + flat > 0


def plain_deck_place(text):
    words = text.split(" ")
    edges, kinds = [], 0
    for place, word in enumerate(words):
        edge = plain_edge(word)
        if place == 0 and is_plain_number(word):
            continue
        if place > 0 and edge is not None and kinds == 0 and len(edges) < 20:
            edges.append(edge)
        elif place > 0 and kinds < 30 and plain_kind(word, edges):
            kinds += 1
        else:
            return place
    return None if kinds else len(words)


class Lists(unittest.TestCase):
    def test_told_by_hand(self):
        for numbers, text in [
            ([1, 2, 2, 1], "1 2 2 1"), ([0], "0"), ([-5], "-5"), ([0, 0], "0 0"), ([10, -10, 100], "10 -10 100"),
            ([LONG], "100000000000000000000000000007"), ([1 - 10 ** 30], "-" + "9" * 30),
        ]:
            self.assertEqual(write_list(numbers), text)
            self.assertTrue(same(read_list(text), numbers))

    def test_there_and_back(self):
        draw = random.Random(17)
        for many in (1, 2, 3, 199, 200, 201, 399, 400):
            for _ in range(5):
                numbers = [draw.choice(RIGHT_NUMBERS) + draw.randint(-6, 0) for _ in range(many)]
                text = write_list(numbers)
                self.assertTrue(same(read_list(text), numbers))
                self.assertEqual(write_list(read_list(text)), text)
                self.assertEqual(text, " ".join(str(number) for number in numbers))

    def test_numbers_of_every_length(self):
        for digits in range(1, 31):
            for number in (10 ** (digits - 1), 10 ** digits - 1, -(10 ** (digits - 1)), 1 - 10 ** digits):
                self.assertEqual(read_list(str(number)), [number])
                self.assertEqual(write_list([number, number]), f"{number} {number}")

    def test_wrong_words_at_every_place(self):
        for wrong, many in itertools.product(WRONG_NUMBERS, (1, 2, 3, 7)):
            for place in range(many):
                words = ["5"] * many
                words[place] = wrong
                # A second wrong word behind it does not matter.
                for rest in ([], ["x"], [""]):
                    self.assertEqual(place_of(read_list, " ".join(words + rest)), place, (words, rest))

    def test_blanks(self):
        for text, place in [
            ("", 0), (" ", 0), ("  ", 0), (" 1", 0), ("1 ", 1), ("1  2", 1), ("1 2 ", 2), ("1 2  ", 2), ("1 2   3", 2),
            (" 1 2", 0), ("1\n2", 0), ("1 2\n", 1), ("\n", 0), ("1 \n2", 1),
        ]:
            self.assertEqual(place_of(read_list, text), place, repr(text))

    def test_both_sides_of_the_length(self):
        self.assertEqual(read_list("0 " * 399 + "7"), [0] * 399 + [7])
        for many in (401, 402, 1000, 3000):
            self.assertEqual(place_of(read_list, " ".join(["1"] * many)), 400)
        self.assertEqual(place_of(read_list, " ".join(["1"] * 400 + ["x"])), 400)
        self.assertEqual(place_of(read_list, " ".join(["1"] * 399 + ["x", "1"])), 399)
        self.assertEqual(place_of(read_list, " ".join(["1"] * 400) + " "), 400)

    def test_all_short_strings(self):
        for many in range(7):
            for signs in itertools.product("01- ,", repeat=many):
                self.check("".join(signs))

    def check(self, text):
        place = plain_list_place(text)
        self.assertEqual(place_of(read_list, text), place, repr(text))
        if place is None:
            # Each value has exactly one text.
            self.assertEqual(write_list(read_list(text)), text)

    def test_every_sign(self):
        for sign in [chr(code) for code in range(32, 127)] + ["\n"]:
            for word in (sign, sign + "1", "1" + sign, "1" + sign + "2", "-" + sign, "5 " + sign + "1"):
                self.check(word)

    def test_by_name(self):
        self.assertEqual(write_list(numbers=[1, -2]), "1 -2")
        self.assertEqual(read_list(text="1 -2"), [1, -2])
        self.assertIsNot(read_list("1"), read_list("1"))


class Decks(unittest.TestCase):
    def test_told_by_hand(self):
        for parts, text in [
            ((4, [[1, 2, 3], [2]], [(0, 2, 0), (0, 1, 1)]), "4 e1,2,3 e2 0/2/0 0/1/1"),
            ((0, [[]], [(0, 1, 0)]), "0 e 0/1/0"),
            ((-LONG, [[-1], [], [0, 0]], [(2, 100, 1)]), f"-{LONG} e-1 e e0,0 2/100/1"),
            ((7, [[]] * 11, [(10, 10, 9), (0, 1, 10)]), "7" + " e" * 11 + " 10/10/9 0/1/10"),
        ]:
            self.assertEqual(write_deck(Deck(*parts)), text)
            self.assertEqual(read_deck(text), Deck(*parts))
            self.assertTrue(same(read_deck(text), Deck(*parts)))

    def test_there_and_back(self):
        for parts in SMALL + GREAT:
            deck = made(parts)
            text = write_deck(deck)
            self.assertIs(type(read_deck(text)), Deck)
            self.assertTrue(same(read_deck(text), deck))
            self.assertEqual(write_deck(read_deck(text)), text)
            self.assertEqual(plain_deck_place(text), None)
            self.assertTrue(same(deck, made(parts)))

    def test_limits_from_inside(self):
        for parts in [
            (1, [[]] * 20, [(19, 1, 19)] * 30), (1, [[5] * 60], [(0, 0, 0)]), (1, [[5] * 60] * 20, [(0, 100, 19)]),
            (10 ** 30 - 1, [[1 - 10 ** 30] * 60] * 2, [(1, 100, 0)] * 30), (1, [[], [1]], [(1, 0, 0), (0, 1, 1)]),
        ]:
            deck = Deck(*parts)
            self.assertTrue(same(read_deck(write_deck(deck)), deck))

    def test_places_told_by_hand(self):
        for text, place in [
            ("", 0), (" ", 0), ("4", 1), ("4 ", 1), (" 4 e 0/1/0", 0), ("4  e 0/1/0", 1), ("4 e  0/1/0", 2),
            ("4 e 0/1/0 ", 3), ("4 e", 2), ("4 e e1", 3), ("e 0/1/0", 0), ("e", 0), ("0/1/0", 0), ("4 0/1/0", 1),
            ("4 0/1/0 e", 1), ("4 5", 1), ("4 e 5", 2), ("4 e 0/1/0 e", 3), ("4 e 0/1/0 e 0/1/0", 3),
            ("4 e 0/1/0 5", 3), ("4 e 0/0/0", 2), ("4 e 0/101/0", 2), ("4 e 0/-1/0", 2), ("4 e1 0/-1/0", 2),
            ("4 e1,2,3 0/-1/0", 2), ("4 e 1/1/0", 2), ("4 e 0/1/1", 2), ("4 e -1/1/0", 2), ("4 e 0/1/-1", 2),
            ("4 e 0/1/0 1/1/0", 3), ("4 e 0/1/0 0/0/0", 3), ("4 e 0/1", 2), ("4 e 0/1/0/0", 2), ("4 e 0//0", 2),
            ("4 e /1/0", 2), ("4 e 0/1/", 2), ("4 e 00/1/0", 2), ("4 e 0/01/0", 2), ("4 e 0/1/-0", 2),
            ("4 e 0/+1/0", 2), ("4 e0/1/0", 1), ("4 e, 0/1/0", 1), ("4 e1, 0/1/0", 1), ("4 e,1 0/1/0", 1),
            ("4 e1,,2 0/1/0", 1), ("4 e01 0/1/0", 1), ("4 e-0 0/1/0", 1), ("4 ee 0/1/0", 1), ("4 E 0/1/0", 1),
            ("4 f1 0/1/0", 1), ("4 1,2 0/1/0", 1), ("04 e 0/1/0", 0), ("-0 e 0/1/0", 0), ("+4 e 0/1/0", 0),
            ("x e 0/1/0", 0), ("4\ne 0/1/0", 0), ("4 e\n0/1/0", 1), ("4 e 0/1/0\n", 2),
            ("4 e e1 1/0/0 0/1/1 0/0/1", 5), ("4 e1 0/0/0 0/0/1", 3), ("4 e 0 / 1 / 0", 2), ("4 e1 2 0/1/0", 2),
        ]:
            self.assertEqual(place_of(read_deck, text), place, repr(text))
            self.assertEqual(plain_deck_place(text), place, repr(text))

    def test_numbers_that_are_written_otherwise(self):
        for wrong in WRONG_NUMBERS:
            self.assertEqual(place_of(read_deck, f"{wrong} e 0/1/0"), 0, wrong)
            # A comma parts entries, and nothing behind the e is an empty edge.
            if wrong and wrong != "1,2":
                self.assertEqual(place_of(read_deck, f"4 e{wrong} 0/1/0"), 1, wrong)
            self.assertEqual(place_of(read_deck, f"4 e5,{wrong},5 0/1/0"), None if wrong == "1,2" else 1, wrong)
            for kind in (f"{wrong}/1/0", f"0/{wrong}/0", f"0/1/{wrong}"):
                self.assertEqual(place_of(read_deck, f"4 e1 {kind}"), 2, wrong)
                self.assertEqual(place_of(read_deck, f"4 e1 0/0/0 {kind} x"), 3, wrong)

    def test_words_beyond_the_limits(self):
        for text, place in [
            ("4" + " e" * 20 + " 0/1/0", None), ("4" + " e" * 21 + " 0/1/0", 21), ("4" + " e" * 40, 21),
            ("4" + " e" * 20, 21), ("4" + " e" * 20 + " x", 21), ("4 e" + " 0/1/0" * 30, None),
            ("4 e" + " 0/1/0" * 31, 32), ("4 e" + " 0/1/0" * 30 + " e", 32), ("4 e" + " 0/1/0" * 29 + " e", 31),
            ("4 e" + ",".join(["1"] * 60) + " 0/1/0", None), ("4 e" + ",".join(["1"] * 61) + " 0/1/0", 1),
            ("4 e e" + ",".join(["1"] * 61) + " 0/1/0", 2), ("4" + " e" * 20 + " 19/1/19 20/1/0", 22),
            ("4" + " e" * 20 + " 0/1/20", 21),
        ]:
            self.assertEqual(place_of(read_deck, text), place, text[:80])

    def test_all_short_sequences_of_words(self):
        words = ["0", "-4", "-0", "e", "e1", "e-1,2", "e,", "0/1/0", "0/0/0", "1/0/1", "0/101/0", "1/100/0", "2/1/0"]
        words.append("")
        for many in (1, 2, 3, 4):
            for chosen in itertools.product(words, repeat=many):
                self.check(" ".join(chosen))

    def test_longer_sequences_of_words(self):
        draw = random.Random(18)
        words = ["e", "e1", "e2,0", "0/1/0", "1/1/0", "0/1/1", "2/0/1", "1/0/3", "0/0/0", "5/1/5", "e1,", "7"]
        for _ in range(6000):
            edges = [draw.choice(words[:3]) for _ in range(draw.randint(1, 5))]
            kinds = [draw.choice(words) for _ in range(draw.randint(1, 5))]
            self.check(" ".join(["3", *edges, *kinds]))

    def test_all_short_strings(self):
        for many in range(6):
            for signs in itertools.product("01e,/ -", repeat=many):
                self.check("4 e" + "".join(signs))
                self.check("4 e1 0/1/" + "".join(signs))

    def check(self, text):
        place = plain_deck_place(text)
        self.assertEqual(place_of(read_deck, text), place, repr(text))
        if place is None:
            self.assertEqual(write_deck(read_deck(text)), text)

    def test_by_name(self):
        deck = read_deck(text="4 e1 0/1/0")
        self.assertEqual(write_deck(deck=deck), "4 e1 0/1/0")


if __name__ == "__main__":
    unittest.main()
