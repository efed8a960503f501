"""FRACTIONS, pairs (top, bottom) without a common divisor: what they come to."""

from math import gcd, lcm

ZERO = (0, 1)
ONE = (1, 1)


def reduced(top, bottom):
    """The FRACTION top divided by bottom; bottom is not 0."""
    shared = gcd(top, bottom)
    if bottom < 0:
        shared = -shared
    return (top // shared, bottom // shared)


def plus(x, y):
    return reduced(x[0] * y[1] + y[0] * x[1], x[1] * y[1])


def minus(x, y):
    return reduced(x[0] * y[1] - y[0] * x[1], x[1] * y[1])


def mult(x, y):
    return reduced(x[0] * y[0], x[1] * y[1])


def over(x, y):
    """x divided by y, which is not 0."""
    return reduced(x[0] * y[1], x[1] * y[0])


def negated(x):
    return (-x[0], x[1])


def below(x, y):
    return x[0] * y[1] < y[0] * x[1]


def middle(x, y):
    """Half of x and y added up."""
    return reduced(x[0] * y[1] + y[0] * x[1], 2 * x[1] * y[1])


def wholes(row):
    """The list of whole numbers, and their one bottom, that row comes to."""
    bottom = 1
    for own in row:
        bottom = lcm(bottom, own[1])
    return [own[0] * (bottom // own[1]) for own in row], bottom


def fractions(numbers, bottom):
    """The ROW of numbers, each divided by bottom."""
    return tuple([reduced(own, bottom) for own in numbers])


def added_up(row):
    tops, bottom = wholes(row)
    return reduced(sum(tops), bottom)


def dot(row, other):
    """The products of what stands at the same places, added up."""
    tops, bottom = wholes(row)
    others, other_bottom = wholes(other)
    return reduced(sum([a * b for a, b in zip(tops, others)]), bottom * other_bottom)


def times_row(row, f):
    return tuple([mult(own, f) for own in row])


def plus_rows(row, other):
    """Two ROWS of one length, added up place by place."""
    return tuple([plus(x, y) for x, y in zip(row, other)])


def table_sum(table, row):
    """The sum of table over row."""
    return dot(row, tuple([dot(own, row) for own in table]))
