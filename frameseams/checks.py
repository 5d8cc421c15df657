"""What several modules ask of their arguments."""

from frameseams.errors import InvalidHop, InvalidList, InvalidNumber

MOST_ENTRIES = 200
GREATEST_HOP = 1000
GREATEST_MARK = 1000


def is_integer(thing):
    # For Python a boolean is an integer too; for this package it is none.
    return isinstance(thing, int) and not isinstance(thing, bool)


def is_within(thing, least, most):
    return is_integer(thing) and least <= thing <= most


def is_integer_list(thing, most, least=1):
    """Whether thing is a list of least to most integers."""
    if not isinstance(thing, list):
        return False
    return least <= len(thing) <= most and all([is_integer(entry) for entry in thing])


def need_hop(hop, least=1, most=GREATEST_HOP):
    if not is_within(hop, least, most):
        raise InvalidHop(f"the hop is no integer from {least} to {most}")


def need_list(thing, most, least=1):
    if not is_integer_list(thing, most, least):
        raise InvalidList(f"no list of {least} to {most} integers")


def need_integer(number):
    if not is_integer(number):
        raise InvalidNumber("the number is no integer")


def need_number(number, least, most):
    if not is_within(number, least, most):
        raise InvalidNumber(f"the number is no integer from {least} to {most}")


def need_mark(mark):
    need_number(mark, 2, GREATEST_MARK)
