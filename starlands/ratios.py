"""Ratios: pairs (top, bottom) of integers without a common divisor greater than 1, the bottom positive."""

from math import gcd


def ratio(top, bottom):
    """The ratio of two integers, the second one positive."""
    common = gcd(top, bottom)
    return (top // common, bottom // common)


def plus(one, other):
    """The sum of two ratios."""
    return ratio(one[0] * other[1] + other[0] * one[1], one[1] * other[1])


def last_unknown(rows):
    """The last unknown of as many equations, as a ratio; the last integer of each row is what its others sum up to.

    Every first few equations must settle as many unknowns if the others are 0, as they do for mean times.
    """
    before = 1
    while len(rows) > 1:
        head, *rest = rows
        # All integers that come of this have the head before as a divisor: so they stay small and whole.
        rows = [
            [(row[at] * head[0] - row[0] * head[at]) // before for at in range(1, len(head))]
            for row in rest
        ]
        before = head[0]
    return ratio(rows[0][1], rows[0][0])
