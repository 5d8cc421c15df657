"""Plain work on lists of integers. Unlike windows they may be longer, or all 0; nothing is checked here."""


def sums_at(entries, hop):
    """The list of hop sums: at r of the entries whose number leaves the rest r."""
    return [sum(entries[rest::hop]) for rest in range(hop)]


def are_equal(numbers):
    return all([number == numbers[0] for number in numbers])


def spread(entries, by):
    """The entries with by - 1 zeros between neighbouring ones."""
    longer = [0] * ((len(entries) - 1) * by + 1)
    for i, entry in enumerate(entries):
        longer[i * by] = entry
    return longer


def laid(pieces, length):
    """The sums at 0 to length - 1 of lists at their places; each piece is a tuple of a list's begin and the list."""
    sums = [0] * length
    for begin, entries in pieces:
        for i, entry in enumerate(entries):
            if 0 <= begin + i < length:
                # Not by +=, which may change a thing in place: properties run this, and they change nothing.
                sums[begin + i] = sums[begin + i] + entry
    return sums


def multiplied(entries, others):
    """The list whose entry k is the sum of all products of entries with numbers that add up to k."""
    longer = [0] * (len(entries) + len(others) - 1)
    for i, entry in enumerate(entries):
        for j, other in enumerate(others):
            longer[i + j] += entry * other
    return longer


def divided(entries, factor):
    """The list whose product with factor, which begins with 1, is entries; None if there is none."""
    left = list(entries)
    shorter = []
    for i in range(len(entries) + 1 - len(factor)):
        # All that stands ahead of entry i has been taken away, so that only the factor's 1 reaches it.
        times = left[i]
        shorter.append(times)
        for j, other in enumerate(factor):
            left[i + j] -= times * other
    if any(left):
        return None
    return shorter
