"""Search among whole numbers for the place from which on something is so."""


def first_above(low, high, holds):
    """The least number above low, at most high, at which holds is so.

    It is not so at low, so at high, and what is so at a number is so at each
    greater one.
    """
    start, end = low, high
    while end - start > 1:
        half = (start + end) // 2
        if holds(half):
            end = half
        else:
            start = half
    return end
