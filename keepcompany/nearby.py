"""Where a zero outside of the rim is: squares cut smaller and smaller.

A square is a pair (x, y) of odd numbers: it goes one unit to each side of
x + y i units, and the unit is a power of 2. A square in which there surely is
no zero is left out, and so is one that lies within the circle.
"""

from math import isqrt

from keepcompany.ratios import reduced
from keepcompany.spans import ceiling
from keepcompany.wholepolys import simple


def stretched(p, power):
    """p in units of 2 ** power, times a number above 0."""
    if power >= 0:
        return [own << (power * k) for k, own in enumerate(p)]
    last = len(p) - 1
    return [own << (-power * (last - k)) for k, own in enumerate(p)]


def moved_to(p, x, y):
    """The pairs of numbers that p is, power by power, seen from x + y i."""
    out = [(own, 0) for own in p]
    for k in range(len(p) - 1):
        at = len(p) - 2
        while at >= k:
            a, b = out[at + 1]
            out[at] = (out[at][0] + a * x - b * y, out[at][1] + a * y + b * x)
            at -= 1
    return out


def has_none(terms):
    """Whether it is sure, by the first term, that no zero is in the square."""
    # No place of a square is farther than 3 / 2 units from its middle.
    last = len(terms) - 1
    rest = 0
    power = 1
    for k, (a, b) in enumerate(terms[1:]):
        power *= 3
        rest += ((isqrt(a * a + b * b) + 1) * power) << (last - 1 - k)
    a, b = terms[0]
    return isqrt(a * a + b * b) << last > rest


def squared(pair):
    return pair[0] * pair[0] + pair[1] * pair[1]


def within_rim(x, y, power):
    """Whether the whole square lies within the circle."""
    if power > 0:
        return False
    return (abs(x) + 1) * (abs(x) + 1) + (y + 1) * (y + 1) <= 1 << (-2 * power)


def surely_near(terms, x, y, power, width):
    """Whether a zero outside of the circle is surely at most width from x + y i units.

    So many times the first term over the second one as p has powers, no
    zero is farther than that from the middle: the nearest one is within.
    """
    least = (len(terms) - 1) * (len(terms) - 1) * squared(terms[0])
    most = squared(terms[1])
    up, down = 1 << max(0, 2 * power), 1 << max(0, -2 * power)
    if least * up * width[1] * width[1] > most * down * width[0] * width[0]:
        return False
    # A place whose size has the square a lies more than 2 (a - 1) / (a + 3) outside.
    size = (x * x + y * y) * up
    if size <= down:
        return False
    far, wide = 2 * (size - down), size + 3 * down
    return least * up * wide * wide < most * down * far * far


def quarters(squares):
    """The squares of half the size, those of the upper half alone."""
    out = []
    for x, y in squares:
        for across in (2 * x - 1, 2 * x + 1):
            out.extend([(across, up) for up in (2 * y - 1, 2 * y + 1) if up > 0])
    return out


def zero_near(numbers, width):
    """The pair (across, up) of a place at most width from a zero outside of the circle.

    numbers has such a zero. up is above 0; the zero a + b i that is meant, b
    from 0, has a and b at most width from across and up.
    """
    p = simple(numbers)
    power = ceiling(p).bit_length() - 1
    squares = [(0, 0)]
    while True:
        squares = quarters(squares)
        power -= 1
        stretched_p = stretched(p, power)
        left = []
        for x, y in squares:
            terms = moved_to(stretched_p, x, y)
            if surely_near(terms, x, y, power, width):
                return place_of(x, power), place_of(y, power)
            if not within_rim(x, y, power) and not has_none(terms):
                left.append((x, y))
        squares = left


def place_of(number, power):
    """The FRACTION of so many units."""
    if power >= 0:
        return number << power, 1
    return reduced(number, 1 << -power)
