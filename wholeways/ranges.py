"""Stretches of worths, and rows of them.

A row is an ascending tuple of stretches none of which lies within another one, so both its lows and
its highs ascend.
"""

from wholeways.kinds import GREATEST_WORTH

ALL_ROW = ((-10 ** 18, 10 ** 18),)


def is_in(worth, stretch):
    low, high = stretch
    return low <= worth <= high


def starts_of(stretches):
    """The ascending list of the least worths of all kinds: worths in which all these stretches tell alike."""
    starts = [low for low, _ in stretches] + [high + 1 for _, high in stretches if high < GREATEST_WORTH]
    return sorted(set([-GREATEST_WORTH] + starts))


def row_of_test(sign, worth):
    """The row of the worths that pass the test of a node."""
    low = -GREATEST_WORTH if sign == "<" else worth + (1 if sign == ">" else 0)
    high = GREATEST_WORTH if sign == ">" else worth - (1 if sign == "<" else 0)
    return ((low, high),) if low <= high else ()


def greatest_of(stretches):
    """The row of those stretches that lie within no other one."""
    found = []
    # of those that begin alike the greatest one comes first
    for low, negative in sorted([(low, -high) for low, high in stretches]):
        if not found or found[-1][1] < -negative:
            found.append((low, -negative))
    return tuple(found)


def either_row(one, other):
    """The row of what is in one of two rows."""
    if one == other or one == ALL_ROW:
        return one
    if other == ALL_ROW:
        return other
    return greatest_of(one + other)


def both_row(one, other):
    """The row of what is in a stretch of each of two rows.

    Of the two stretches looked at, the one that ends first has with no further one of the other row
    more in common than with this one, as those begin later.
    """
    if one == ALL_ROW:
        return other
    if other == ALL_ROW:
        return one
    found = []
    i = 0
    j = 0
    while i < len(one) and j < len(other):
        low = max(one[i][0], other[j][0])
        high = min(one[i][1], other[j][1])
        if low <= high:
            found.append((low, high))
        if one[i][1] == high:
            i += 1
        else:
            j += 1
    return greatest_of(found)
