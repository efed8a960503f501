"""POLYS of FRACTIONS, taken as they are: sums, products, parts of them."""

from keepcompany.ratios import fractions, reduced, times_row, wholes
from keepcompany.wholepolys import by_many, divisor, product_of, simple, worth_at


def trimmed(row):
    """row without the 0s at its end."""
    many = len(row)
    while many > 0 and row[many - 1][0] == 0:
        many -= 1
    return tuple(row[:many])


def added(p, q):
    one, bottom = wholes(p)
    other, other_bottom = wholes(q)
    out = [0] * max(len(p), len(q))
    for k, own in enumerate(one):
        out[k] += own * other_bottom
    for k, own in enumerate(other):
        out[k] += own * bottom
    return trimmed(fractions(out, bottom * other_bottom))


def multiplied(p, q):
    one, bottom = wholes(p)
    other, other_bottom = wholes(q)
    return fractions(product_of(one, other), bottom * other_bottom)


def scaled(p, f):
    """f times p; f may be 0."""
    return trimmed(times_row(p, f))


def parted(p, q):
    """The pair (times, rest): p is times q, and rest; q is not ()."""
    rest, bottom = wholes(p)
    other, other_bottom = wholes(q)
    many = max(0, len(p) - len(q) + 1)
    lead = other[-1]
    out = [(0, 1)] * many
    for k in range(many):
        at = many - 1 - k
        own = rest[at + len(q) - 1]
        out[at] = reduced(own * other_bottom, bottom * lead)
        rest = [lead * one for one in rest]
        for j, one in enumerate(other):
            rest[at + j] -= own * one
        bottom *= lead
    return tuple(out), trimmed(fractions(rest, bottom))


def valued(p, x):
    """What p comes to at x."""
    if not p:
        return (0, 1)
    numbers, bottom = wholes(p)
    for _ in range(len(p) - 1):
        bottom *= x[1]
    return reduced(worth_at(numbers, x), bottom)


def monic(numbers):
    """The POLY of whole numbers divided by the last of them."""
    if not numbers:
        return ()
    return fractions(numbers, numbers[-1])


def shared_part(p, q):
    return monic(divisor(wholes(p)[0], wholes(q)[0]))


def parts_by_many(p):
    """The list of pairs (POLY, many), the last FRACTION of each POLY 1."""
    return [(monic(own), many) for own, many in by_many(wholes(p)[0])]


def zeros_once(p):
    if not p:
        return ()
    return monic(simple(wholes(p)[0]))
