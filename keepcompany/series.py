"""ROWS as rows of powers of 1 / z, lowest first: the one divided by the other."""

from keepcompany.ratios import ONE, ZERO, dot, minus, over


def row_over(row, by):
    """The ROW that, multiplied with by, comes to row; both are as long, by does not begin with 0."""
    out = []
    for k, own in enumerate(row):
        ahead = dot(by[1:k + 1], out[::-1])
        out.append(over(minus(own, ahead), by[0]))
    return tuple(out)


def one_over(by):
    """The ROW that, multiplied with by, comes to 1."""
    return row_over((ONE,) + (ZERO,) * (len(by) - 1), by)
