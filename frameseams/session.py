"""A session: lines about a window, and the answers to them."""

from frameseams.errors import InvalidHop, InvalidText, InvalidWindow, NoPartner, NotEven
from frameseams.marks import marks_of, order_at
from frameseams.partners import least_partner
from frameseams.rests import hops_of, level_at, rest_sums
from frameseams.texts import is_number, read_list, write_list
from frameseams.windows import need_window, product_of


def session(rows):
    """The answers to the lines, one line for each."""
    # The last window is the one that the lines are about, the ones ahead of it those before each times line.
    windows = []
    answers = []
    for row in rows.split("\n"):
        answers.append(_answer(row.split(" "), windows))
    return "\n".join(answers)


def _answer(words, windows):
    try:
        return _told(words, windows)
    except InvalidText:
        return "InvalidText"
    except InvalidWindow:
        return "InvalidWindow"
    except InvalidHop:
        return "InvalidHop"
    except NotEven:
        return "NotEven"
    except NoPartner:
        return "NoPartner"


def _told(words, windows):
    if "" in words:
        return "?"
    if words[0] == "window" and len(words) > 1:
        return _begin(words[1:], windows)
    if len(windows) == 0:
        return "?"
    if words[0] == "times" and len(words) > 1:
        return _multiply(words[1:], windows)
    if words == ["back"]:
        return _go_back(windows)
    if not all([is_number(word) for word in words[1:]]):
        return "?"
    return _told_of(windows[-1], words[0], [int(word) for word in words[1:]])


def _begin(words, windows):
    window = read_list(" ".join(words))
    need_window(window)
    windows.clear()
    windows.append(window)
    return "ok"


def _multiply(words, windows):
    product = product_of(windows[-1], read_list(" ".join(words)))
    windows.append(product)
    return "ok"


def _go_back(windows):
    if len(windows) == 1:
        return "NothingToUndo"
    windows.pop()
    return "ok"


def _told_of(window, word, numbers):
    """The answer to a line that changes nothing."""
    form = (word, len(numbers))
    if form == ("hops", 0):
        return _line(hops_of(window))
    if form == ("marks", 0):
        return _line(marks_of(window))
    if form == ("rests", 1):
        return _line(rest_sums(window, numbers[0]))
    if form == ("level", 1):
        return _line([level_at(window, numbers[0])])
    if form == ("order", 1):
        return _line([order_at(window, numbers[0])])
    if form == ("partner", 2):
        return _line(least_partner(window, numbers[0], numbers[1]))
    return "?"


def _line(numbers):
    return write_list(numbers) if numbers else "-"
