"""PARTS: dampers, springs and masses, what they are at a point, and PAIRS there."""

from keepcompany.checks import taken, taken_fraction, taken_from, taken_row
from keepcompany.errors import CanNot
from keepcompany.joints import box_of, held_box, part_shaped, taken_part
from keepcompany.points import crossed, edge_at, pair_by, points_over, size_of, tone_at
from keepcompany.ratios import ONE, ZERO, added_up, below, dot, plus
from keepcompany.rims import with_bottoms
from keepcompany.shapes import answers_of, taken_small


def is_part(thing):
    """Whether thing is a PART."""
    return part_shaped(thing)


def part_box(part):
    """The BOX of part."""
    return box_of(taken_part(part))


def part_store(part):
    """The one STORE of the BOX of part."""
    kind, amount = taken_part(part)
    return () if kind == "damper" else ((plus(amount, amount),),)


def part_work(part, pushes):
    """The WORK of pushes from REST."""
    own, row = taken_part(part), taken_row(pushes)
    return dot(row, answers_of(box_of(own), row))


def parts_shaped(thing):
    return isinstance(thing, tuple) and len(thing) > 0 and all([part_shaped(own) for own in thing])


def parts_box(parts):
    """The SMALL BOX that adds up what all parts answer to its push."""
    kept = taken(parts, 3, parts_shaped)
    damper, mass, spring = [added_up(tuple([own[1] for own in kept if own[0] == kind]))
                            for kind in ("damper", "mass", "spring")]
    if spring == ZERO and mass == ZERO:
        return box_of(("damper", damper))
    return with_bottoms(held_box(spring, mass), damper)


def spring_and_mass(p, q):
    """The BOX of the spring p and the mass q, answers added, or of one of them alone."""
    spring, mass = taken_from(p, 0), taken_from(q, 0)
    if spring == ZERO and mass == ZERO:
        raise CanNot()
    return held_box(spring, mass)


def tone(box, a, b):
    """The pair of tops over bottoms, as POLYS, at a + b i; None where bottoms is 0."""
    own = taken_small(box)
    return tone_at(own, (taken_fraction(a), taken_fraction(b)))


def edge_of(a, b):
    """The pair of (z + 1) / (z - 1) for z = a + b i."""
    z = (taken_fraction(a), taken_fraction(b))
    if z == (ONE, ZERO):
        raise CanNot()
    return edge_at(z)


def in_sector(a, b, x, y):
    """Whether x + y i lies in the SECTOR at (a, b), its edges with it."""
    z = (taken_fraction(a), taken_fraction(b))
    w = (taken_fraction(x), taken_fraction(y))
    if z[1][0] <= 0 or not below(ONE, size_of(z)):
        raise CanNot()
    edge = edge_at(z)
    other = points_over((ONE, ZERO), edge)
    # Both edges are less than a half turn apart, and w lies between them.
    return crossed(edge, w)[0] >= 0 and crossed(w, other)[0] >= 0


def pair_at(box, a, b):
    """A pair (p, q) such that (p, q, a, b) is a PAIR of box; None if there is none."""
    own, across, up = taken_small(box), taken_fraction(a), taken_from(b, 0)
    return pair_by(own, across, up)
