"""Points a + b i as pairs (a, b) of FRACTIONS, and PAIRS of a BOX at such points."""

from keepcompany.checks import is_fraction
from keepcompany.joints import held_box, loop_of, stuck
from keepcompany.ratios import ONE, ZERO, below, minus, mult, negated, over, plus
from keepcompany.shapes import polys_of

NOUGHT = ((0, 1), (0, 1))


def size_of(z):
    """The square of the distance from 0."""
    return plus(mult(z[0], z[0]), mult(z[1], z[1]))


def points_times(z, w):
    return (minus(mult(z[0], w[0]), mult(z[1], w[1])), plus(mult(z[0], w[1]), mult(z[1], w[0])))


def points_over(z, w):
    """z divided by w, which is not 0."""
    size = size_of(w)
    top = points_times(z, (w[0], negated(w[1])))
    return over(top[0], size), over(top[1], size)


def crossed(z, w):
    """How far w lies to the left of z: above 0 if it does, times both sizes."""
    return minus(mult(z[0], w[1]), mult(z[1], w[0]))


def value_by(p, z):
    """What the POLY p comes to at z."""
    out = NOUGHT
    for own in p[::-1]:
        out = points_times(out, z)
        out = (plus(out[0], own), out[1])
    return out


def tone_at(box, z):
    """The value at z of the POLY of tops divided by that of bottoms; None for a 0 below."""
    tops, bottoms = polys_of(box)
    under = value_by(bottoms, z)
    return None if under == NOUGHT else points_over(value_by(tops, z), under)


def edge_at(z):
    """The pair of (z + 1) / (z - 1); z is not 1."""
    return points_over((plus(z[0], ONE), z[1]), (minus(z[0], ONE), z[1]))


def shares_at(z, w):
    """The pair (p, q) with p (z + 1) / (z - 1) + q (z - 1) / (z + 1) being w.

    z is not real and its size above 1; p and q may be below 0.
    """
    edge = edge_at(z)
    other = points_over((ONE, ZERO), edge)
    turn = crossed(edge, other)
    return over(crossed(w, other), turn), over(crossed(edge, w), turn)


def amounts_at(box, z):
    """The list of pairs (p, q) that may make a PAIR of box with z, STUCK ones with them.

    It holds all for which the LOOP is 0 at z where z is not real, else those
    of them with p or q 0.
    """
    tops, bottoms = polys_of(box)
    above, under = value_by(tops, z), value_by(bottoms, z)
    if above == NOUGHT or under == NOUGHT:
        return []
    aim = points_over((negated(under[0]), negated(under[1])), above)
    if z[1] != ZERO:
        p, q = shares_at(z, aim)
        return [(p, q)] if p[0] >= 0 and q[0] >= 0 else []
    if aim[0][0] < 0:
        return []
    edge = edge_at(z)[0]
    return [(over(aim[0], edge), ZERO), (ZERO, mult(aim[0], edge))]


def pair_by(box, a, b):
    """A pair (p, q) such that (p, q, a, b) is a PAIR of box, b from 0; None if there is none."""
    if not below(ONE, size_of((a, b))):
        return None
    for p, q in amounts_at(box, (a, b)):
        if not stuck(box, held_box(p, q)):
            return p, q
    return None


def four_shaped(thing):
    """Whether thing is a quadruple that may be a PAIR."""
    if not isinstance(thing, tuple) or len(thing) != 4 or not all([is_fraction(own) for own in thing]):
        return False
    p, q, a, b = thing
    if p[0] < 0 or q[0] < 0 or b[0] < 0 or (p == ZERO and q == ZERO):
        return False
    return below(ONE, size_of((a, b)))


def other_of(four):
    """The BOX of the spring and the mass of four."""
    return held_box(four[0], four[1])


def pair_shaped(box, thing):
    """Whether thing is a PAIR of box."""
    if not four_shaped(thing):
        return False
    other = other_of(thing)
    return not stuck(box, other) and value_by(loop_of(box, other), thing[2:]) == NOUGHT
