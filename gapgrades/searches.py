"""Searches for the last number of which something holds."""


def last_holding(holds, first, last):
    """The last number, from the first to the last one, of which it holds.

    It is taken to hold of the first one, unasked, and of no number behind one of which it doesn't.
    """
    low = first
    high = last
    while low < high:
        middle = (low + high + 1) // 2
        if holds(middle):
            low = middle
        else:
            high = middle - 1
    return low
