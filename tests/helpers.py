"""What several tests share: wrong arguments, plain sums, and what a call did."""

import copy
import itertools
import math

from frameseams import blocks, errors, frames

LONG = 10 ** 29 + 7
ENDS_AT_200 = [3] + [0] * 198 + [-5]


def wrong_windows():
    """Objects of every kind that are no windows, new ones for each call."""
    deep = [1]
    for _ in range(18):
        deep = [deep]
    return [
        None, True, False, 0, 1, -7, LONG, "", "1 2 2 1", "window",
        (), (1,), (1, 2, 2, 1), {}, {"a": 1}, {"a": [1, 2]},
        [], [0], [0, 0, 0], [0] * 200, [1] * 201, [0] * 200 + [1], [1] * 4000,
        [True], [False], [1, True], [False, 1], [1, 2, False, 3], [True] * 200, [1] * 199 + [True],
        [None], [1, None], ["1"], [1, "2"], [1, ""], [[1, 2]], [1, [2]], [[]], [1, []], [1, (2,)], [1, ()],
        [1, {}], [{"a": 1}], deep, {"a": deep}, (deep,),
        errors.SeamError("x"), errors.NotEven(0, 1), [1, errors.InvalidHop("x")], a_deck(), [a_deck()], [1, a_deck()],
        a_joiner(), [a_joiner()], [1, a_joiner()],
    ]


def a_joiner():
    """A joiner of one frame, new for each call."""
    joiner = frames.Joiner(1)
    joiner.add([1, 2])
    return joiner


def a_deck():
    """A deck of one kind, new for each call."""
    return blocks.Deck(1, [[1]], [(0, 1, 0)])


def wrong_lists():
    """Objects of every kind that are no lists of integers, new ones for each call; the empty list is not among them."""
    deep = [1]
    for _ in range(18):
        deep = [deep]
    return [
        None, True, False, 0, 1, -7, LONG, "", "1 2", "12", (), (1,), (1, 2), (0, 0), {}, {"a": 1}, {"a": [1, 2]},
        [True], [False], [1, True], [False, 1], [0, 2, False, 3], [True] * 200, [1] * 199 + [True],
        [None], [1, None], [None, 1], ["1"], [1, "2"], ["", 1], [[1, 2]], [[1], [2]], [1, [2]], [[]], [1, []],
        [1, (2,)], [(1,), 2], [1, ()], [1, {}], [{"a": 1}], deep, [1, deep], {"a": deep}, (deep,),
        errors.SeamError("x"), errors.NotEven(0, 1), [1, errors.InvalidHop("x")], a_deck(), [a_deck()], [1, a_deck()],
        a_joiner(), [a_joiner()], [1, a_joiner()],
    ]


def some_wrong_lists():
    """One object of each kind that is no list of 1 to 4,000 integers, for calls with several wrong arguments."""
    return [None, True, (1, 2), "12", [], [1, True], [[1]], {"a": [1]}, a_deck()]


def wrong_lists_of_hops():
    """Objects of every kind that are no lists of hops, new ones for each call."""
    return [
        None, True, False, 0, 1, 6, LONG, "", "4 6", (), (4, 6), {}, {"a": 4}, {"a": [4]},
        [], [0], [4, 0], [-1], [4, -6], [1001], [4, 1001], [LONG], [True], [4, True], [False], [1, 2, 3, False],
        [None], [4, None], ["4"], [4, "6"], [[4, 6]], [4, [6]], [4, []], [4, (6,)], [4, {}],
        [1] * 7, [2, 3, 4, 5, 6, 7, 8], [1] * 4000, [201], [199, 3], [997], [1000], [1, 1, 1, 1, 1, 1000],
        errors.SeamError("x"), [4, errors.NotEven(0, 1)], a_deck(), [a_deck()], a_joiner(), [4, a_joiner()],
    ]


def some_wrong_windows():
    """One object of each kind, for calls with several wrong arguments."""
    return [None, True, (1, 2), "12", [], [0, 0], [1, True], [1] * 201, {"a": [1]}]


def outcome(call, *args, **named):
    """("value", what the call returned), or ("error", the class of what it raised)."""
    try:
        return ("value", call(*args, **named))
    except ValueError as why:
        return ("error", type(why))


def lists_in(value):
    """All lists inside a value, itself included, each as often as it stands there; of objects, those that they tell."""
    found = [value] if isinstance(value, list) else []
    if isinstance(value, blocks.Deck):
        return lists_in(value.edges) + lists_in(value.kinds)
    if isinstance(value, frames.Joiner):
        return lists_in(value.pending)
    if isinstance(value, (list, tuple)):
        for part in value:
            found.extend(lists_in(part))
    return found


def spoil(value):
    """Changes every list in a value."""
    for one in lists_in(value):
        one.append("spoilt")
        one[0] = "spoilt"


def shown(value):
    """The value with what objects tell in their places."""
    if isinstance(value, blocks.Deck):
        return ("Deck", value.level, value.edges, value.kinds)
    if isinstance(value, frames.Joiner):
        return ("Joiner", value.seen, value.ready, value.pending, len(value))
    if isinstance(value, (list, tuple)):
        return type(value)(shown(part) for part in value)
    return value


def same(left, right):
    """Equal, and of the same types throughout (True is not 1 here)."""
    return shown(left) == shown(right) and repr(shown(left)) == repr(shown(right))


def plain_sums(window, hop):
    sums = [0] * hop
    for number in range(len(window)):
        sums[number % hop] += window[number]
    return sums


def plain_hops(window):
    """All hops of the window, by trying every hop that there is."""
    return [hop for hop in range(1, 1001) if len(set(plain_sums(window, hop))) == 1]


def plain_product(window, other):
    entries = []
    for k in range(len(window) + len(other) - 1):
        entries.append(sum(window[i] * other[k - i] for i in range(len(window)) if 0 <= k - i < len(other)))
    return entries


def plain_primes(number):
    return [p for p in range(2, number + 1) if number % p == 0 and all(p % q != 0 for q in range(2, p))]


def plain_phi(number):
    return sum(1 for other in range(1, number + 1) if math.gcd(other, number) == 1)


def plain_divisors(numbers):
    """All divisors of the numbers, 1 included, ascending."""
    return sorted({d for number in numbers for d in range(1, number + 1) if number % d == 0})


def plain_moment(window, power):
    return [number ** power * entry for number, entry in enumerate(window)]


def plain_crossing(sums, primes, rest):
    """The crossing at the rest by its words: over all sets of primes, with the rest sums at the mark."""
    mark = len(sums)
    total = 0
    for many in range(len(primes) + 1):
        for chosen in itertools.combinations(primes, many):
            total += (-1) ** many * sums[(rest + sum(mark // p for p in chosen)) % mark]
    return total


def plain_first_crossing(window, mark):
    sums, primes = plain_sums(window, mark), plain_primes(mark)
    for rest in range(mark):
        if plain_crossing(sums, primes, rest) != 0:
            return rest
    return None


def least_uneven(window, hop):
    """The least tuple of rests with different sums, by going over all tuples in their sequence; or None."""
    sums = plain_sums(window, hop)
    for pair in itertools.combinations(range(hop), 2):
        if sums[pair[0]] != sums[pair[1]]:
            return pair
    return None


def kept(value):
    return copy.deepcopy(value)
