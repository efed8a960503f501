"""CURVES, and whether a BOX is a KEEPER: what the files from curves.py on share.

A POLY in c and its sums are two ways to write one thing: the POLY is sums[0]
and twice sums[k] T_k, k from 1, added up.
"""

from keepcompany.polys import added, multiplied, parted, parts_by_many, scaled, trimmed, valued
from keepcompany.ratios import (ONE, ZERO, dot, middle, plus, plus_rows, times_row, wholes)
from keepcompany.shapes import polys_of
from keepcompany.wholepolys import (by_many, changes_at, chain_of, count_between, outside_count,
                                    product_of, sign_at, slope)

LOW = (-1, 1)
HIGH = (1, 1)


def slants_of(box):
    """The SLANTS of box."""
    tops, bottoms = box
    many = len(tops)
    return tuple([plus(dot(bottoms[k:], tops[:many - k]), dot(tops[k:], bottoms[:many - k]))
                  for k in range(many)])


def poly_of_sums(sums):
    """The POLY in c of sums[0] and twice sums[k] T_k, k from 1."""
    out = (sums[0],)
    last, now = (ONE,), (ZERO, ONE)
    for own in sums[1:]:
        out = added(out, scaled(now, plus(own, own)))
        last, now = now, added(multiplied((ZERO, (2, 1)), now), scaled(last, (-1, 1)))
    return trimmed(out)


def sums_of_poly(p):
    """The ROW of sums, as long as p, whose POLY is p."""
    out = []
    for own in p[::-1]:
        # Times c: each power of z and each of 1 / z goes half up, half down.
        wide = out + [ZERO, ZERO]
        out = [middle(wide[abs(k - 1)], wide[k + 1]) for k in range(len(out) + 1)] if out else [ZERO]
        out[0] = plus(out[0], own)
    return tuple(out)


def curve_of(box):
    """The CURVE of box."""
    return poly_of_sums(slants_of(box))


def size_curve(box):
    """Half the CURVE of (bottoms, bottoms): the square of bottoms' size on the rim."""
    bottoms = box[1]
    return scaled(curve_of((bottoms, bottoms)), (1, 2))


def dips(p):
    """Whether the POLY p is below 0 somewhere from -1 to 1."""
    if not p:
        return False
    numbers = wholes(p)[0]
    odd = [1 if numbers[-1] > 0 else -1]
    for part, many in by_many(numbers):
        if many & 1 == 1:
            odd = product_of(odd, part)
    return count_between(odd, LOW, HIGH) > 0 or sign_at(odd, ZERO) < 0


def stays_above(p):
    """Whether the POLY p, not (), is above 0 all the way from -1 to 1."""
    numbers = wholes(p)[0]
    if sign_at(numbers, LOW) <= 0 or sign_at(numbers, HIGH) <= 0:
        return False
    chain = chain_of(numbers, slope(numbers))
    return changes_at(chain, LOW) == changes_at(chain, HIGH)


def depth_of(p):
    """The least k such that p, above 0 from -1 to 1, is above 1 / 2 ** k there."""
    low, high = -1, 0
    while not stays_above(added(p, ((-1, 1 << high),))):
        low, high = high, 2 * high + 1
    while high - low > 1:
        half = (low + high) // 2
        if stays_above(added(p, ((-1, 1 << half),))):
            high = half
        else:
            low = half
    return high


def fails_damper(box):
    """Whether box, JOINED with the damper 1, is STUCK or runs away."""
    if plus(box[0][0], ONE) == ZERO:
        return True
    tops, bottoms = polys_of(box)
    return outside_count(wholes(added(tops, bottoms))[0]) > 0


def keeps(box):
    """Whether the SMALL BOX box is a KEEPER."""
    return not fails_damper(box) and not dips(curve_of(box))


def parts_of(p):
    """The triple ((x, y), q, s) of a POLY that is not () and nowhere below 0.

    p is (1 - c)^x (1 + c)^y q q s, and s is above 0 from -1 to 1.
    """
    root, odd = (ONE,), (p[-1],)
    for part, many in parts_by_many(p):
        for _ in range(many // 2):
            root = multiplied(root, part)
        if many & 1 == 1:
            odd = multiplied(odd, part)
    ends = []
    for factor, end in (((ONE, (-1, 1)), HIGH), ((ONE, ONE), LOW)):
        at_end = valued(odd, end) == ZERO
        if at_end:
            odd = parted(odd, factor)[0]
        ends.append(1 if at_end else 0)
    return tuple(ends), root, odd


def with_bottoms(box, e):
    """The pair of tops, with e times bottoms added, and bottoms."""
    tops, bottoms = box
    return plus_rows(tops, times_row(bottoms, e)), bottoms
