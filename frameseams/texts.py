"""Texts of lists and decks: each value has exactly one."""

from frameseams.blocks import MOST_EDGES, MOST_KINDS, Deck, is_edge, is_kind
from frameseams.errors import InvalidText

MOST_NUMBERS = 400
MOST_DIGITS = 30
DIGITS = "0123456789"
# Python writes numbers of any length only if they are cut into parts.
PART_DIGITS = 60
PART = 10 ** 60


def write_list(numbers):
    """The numbers with single blanks between."""
    return " ".join([_written(number) for number in numbers])


def read_list(text):
    """The list whose text this is."""
    words = text.split(" ")
    for place, word in enumerate(words):
        if place >= MOST_NUMBERS or not is_number(word):
            raise InvalidText(place)
    return [int(word) for word in words]


def write_deck(deck):
    """A word for the level, one for each edge and one for each kind."""
    words = [_written(deck.level)]
    for edge in deck.edges:
        words.append("e" + ",".join([_written(entry) for entry in edge]))
    for rise, flat, fall in deck.kinds:
        words.append(f"{rise}/{flat}/{fall}")
    return " ".join(words)


def read_deck(text):
    """The deck whose text this is."""
    words = text.split(" ")
    if not is_number(words[0]):
        raise InvalidText(0)
    edges = []
    kinds = []
    for place in range(1, len(words)):
        edge = _edge_of(words[place])
        kind = _kind_of(words[place])
        if edge is not None and len(kinds) == 0 and len(edges) < MOST_EDGES:
            edges.append(edge)
        elif is_kind(kind, edges) and len(kinds) < MOST_KINDS:
            kinds.append(kind)
        else:
            raise InvalidText(place)
    if len(kinds) == 0:
        raise InvalidText(len(words))
    return Deck(int(words[0]), edges, kinds)


def is_number(word):
    """Whether the word is the text of a number."""
    digits = word[1:] if word.startswith("-") else word
    if not 1 <= len(digits) <= MOST_DIGITS or not all([sign in DIGITS for sign in digits]):
        return False
    return word == "0" or digits[0] != "0"


def _edge_of(word):
    """The edge whose word this is, or None."""
    if word == "e":
        return []
    parts = word[1:].split(",")
    if not word.startswith("e") or not all([is_number(part) for part in parts]):
        return None
    edge = [int(part) for part in parts]
    return edge if is_edge(edge) else None


def _kind_of(word):
    """The three numbers of a kind's word, or None."""
    parts = word.split("/")
    if len(parts) != 3 or not all([is_number(part) for part in parts]):
        return None
    return (int(parts[0]), int(parts[1]), int(parts[2]))


def _written(number):
    if number < 0:
        return "-" + _written(-number)
    parts = []
    left = number
    while left >= PART:
        left, part = divmod(left, PART)
        parts.append(str(part).zfill(PART_DIGITS))
    parts.append(str(left))
    return "".join(reversed(parts))
