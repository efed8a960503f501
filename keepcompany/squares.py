"""SQUARES for sums whose CURVE is above 0: one great square and small ones.

The great one is a row whose own products come near to the sums, found by
Newton's steps on whole numbers. What it leaves is made exact by squares of
one or two places, which do as soon as it leaves little but at the middle.
"""

from math import isqrt

from keepcompany.grids import whole_solved
from keepcompany.polys import trimmed
from keepcompany.ratios import (ONE, ZERO, added_up, fractions, minus, mult, negated, over, times_row)
from keepcompany.rims import depth_of, poly_of_sums


def own_products(numbers):
    """The numbers at places k apart multiplied and added up, for each k."""
    many = len(numbers)
    return [sum([numbers[i] * numbers[i + k] for i in range(many - k)]) for k in range(many)]


def squares_of(sums):
    """SQUARES for sums, whose CURVE is above 0 from -1 to 1."""
    core = trimmed(sums)
    found = completed_squares(core, [0] * len(core), ONE)
    if found is None:
        found = found_squares(core)
    lacking = (ZERO,) * (len(sums) - len(core))
    return tuple([(weight, row + lacking) for weight, row in found])


def completed_squares(sums, numbers, weight):
    """SQUARES for sums, weight and numbers among them; None if that cannot be."""
    many = len(sums)
    products = fractions(own_products(numbers), 1)
    left = [minus(own, mult(weight, one)) for own, one in zip(sums, products)]
    # Shared out evenly along each slant.
    shares = [over(own, (many - k, 1)) for k, own in enumerate(left)]
    sizes = [own if own[0] >= 0 else negated(own) for own in shares]
    out = [(weight, fractions(numbers, 1))] if any([own != 0 for own in numbers]) else []
    for place in range(many):
        taken = added_up([sizes[abs(place - k)] for k in range(many) if k != place])
        spare = minus(shares[0], taken)
        if spare[0] < 0:
            return None
        if spare[0] > 0:
            out.append((spare, unit_row(many, place, place, 0)))
    for k in range(1, many):
        if sizes[k][0] > 0:
            sign = 1 if shares[k][0] > 0 else -1
            out.extend([(sizes[k], unit_row(many, i, i + k, sign)) for i in range(many - k)])
    return out


def unit_row(many, place, other, sign):
    """The ROW of 0s with 1 at place and, if that is another one, sign at other."""
    out = [ZERO] * many
    out[other] = (sign, 1)
    out[place] = ONE
    return tuple(out)


def found_squares(sums):
    """SQUARES for sums, by a great square near enough."""
    part = times_row(sums, over(ONE, sums[0]))
    depth = depth_of(poly_of_sums(part))
    bits = 2 * depth + 16
    found = None
    while found is None:
        found = tried_squares(sums, part, depth, bits)
        bits *= 2
    return found


def tried_squares(sums, part, depth, bits):
    """SQUARES for sums by numbers with so many bits; None if these are too few.

    part is sums divided by the first, and the aim is part less half of what
    its CURVE surely has above 0.
    """
    goal = [(own[0] << (2 * bits)) // own[1] for own in part]
    goal[0] -= 1 << (2 * bits - depth - 1)
    numbers = [isqrt(goal[0])] + [0] * (len(goal) - 1)
    # Far off each step halves what is wrong, near by it squares it.
    for _ in range(2 * bits):
        numbers = newton_step(numbers, goal)
        if numbers is None:
            return None
        if scaled_squares(sums, numbers, bits, 0) is not None:
            return shortest_squares(sums, numbers, bits)
    return None


def newton_step(numbers, goal):
    """The next numbers on the way to those whose own products are goal."""
    many = len(numbers)
    products = own_products(numbers)
    grid = []
    for k in range(many):
        line = [0] * (many + 1)
        for j in range(many):
            line[j] += numbers[j + k] if j + k < many else 0
            line[j] += numbers[j - k] if j >= k else 0
        line[many] = goal[k] + products[k]
        grid.append(line)
    found = whole_solved(grid)
    if found is None:
        return None
    tops, bottom = found
    return [(2 * own + bottom) // (2 * bottom) for own in tops]


def scaled_squares(sums, numbers, bits, drop):
    """completed_squares with numbers, drop of their bits rounded away."""
    half = (1 << drop) >> 1
    short = [(own + half) >> drop for own in numbers]
    return completed_squares(sums, short, mult(sums[0], (1, 1 << (2 * (bits - drop)))))


def shortest_squares(sums, numbers, bits):
    """SQUARES for sums with as few bits of numbers as will do."""
    keep = 1
    while keep < bits:
        found = scaled_squares(sums, numbers, bits, bits - keep)
        if found is not None:
            return found
        keep *= 2
    return scaled_squares(sums, numbers, bits, 0)
