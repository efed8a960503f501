"""How much of a PART can be taken off a KEEPER, and BOXES that are late."""

from keepcompany.boxes import late
from keepcompany.checks import (taken_above, taken_fraction, taken_from, taken_number, taken_width)
from keepcompany.crossings import halved_poly
from keepcompany.curves import rim_pair
from keepcompany.drawn import refuse_giver
from keepcompany.errors import CanNot, TooMany
from keepcompany.joints import box_of, part_shaped, taken_part
from keepcompany.keepers import spares_none
from keepcompany.mixtures import STILL, mixed, put_together
from keepcompany.polys import multiplied, parted, shared_part, trimmed, valued
from keepcompany.ratios import ONE, ZERO, mult, negated, over, wholes
from keepcompany.rims import HIGH, LOW, keeps, with_bottoms
from keepcompany.shapes import cells_of, polys_of, taken_small
from keepcompany.shares import keeps_damped, least_damper
from keepcompany.spans import fraction_roots

MOST_LATE = 3
MOST_BORNE = 2
SPRING = ("spring", (1, 1))
MASS = ("mass", (1, 1))
LESS = (-1, 1)


def taken_keeper(value):
    """value, a KEEPER: Unfit if it is no SMALL BOX, CanNot if it is a GIVER."""
    own = taken_small(value)
    refuse_giver(own)
    return own


def most_of(box, unit):
    """The greatest amount of unit, a spring, a mass or a ring, in box, a KEEPER.

    Where the bottoms of unit are 0 box goes like that amount of unit.
    """
    tops, bottoms = polys_of(box)
    tops_too, factor = polys_of(unit)
    beside, rest = parted(bottoms, factor)
    if rest:
        return ZERO
    ahead = parted(tops, factor)[1]
    return over(ahead[-1], parted(multiplied(tops_too, beside), factor)[1][-1])


def most_spring(box):
    """The greatest spring such that box less it keeps."""
    return most_of(taken_keeper(box), box_of(SPRING))


def most_mass(box):
    """The greatest mass such that box less it keeps."""
    return most_of(taken_keeper(box), box_of(MASS))


def most_ring(box, c):
    """The greatest amount of the ring at c such that box less it keeps."""
    own, ring = taken_small(box), rim_pair(c)
    refuse_giver(own)
    return most_of(own, ring)


def taken(box, part):
    """box less the BOX of part, made SMALL."""
    own, less = taken_small(box), box_of(taken_part(part))
    return mixed(own, less, LESS)


def is_most(box, thing):
    """Whether box less thing, a PART, keeps, and less any greater one of its kind does not."""
    own = taken_small(box)
    if not part_shaped(thing) or not keeps(own):
        return False
    kind, amount = thing
    if kind == "damper":
        # What is left may have tops of 0s alone: of that none can be spared, too.
        return spares_none(with_bottoms(own, negated(amount)))
    return most_of(own, box_of((kind, ONE))) == amount


def ring_places(box):
    """The list of all c that are FRACTIONS and at which box, a KEEPER, has a ring."""
    bottoms = polys_of(box)[1]
    # What bottoms shares with itself upside down has its zeros on the rim.
    shared = shared_part(bottoms, trimmed(box[1]))
    for end in (LOW, HIGH):
        if valued(shared, end) == ZERO:
            shared = parted(shared, (negated(end), ONE))[0]
    return fraction_roots(wholes(halved_poly(shared))[0], LOW, HIGH)


def after_all(box):
    """box less the greatest spring, mass and rings, these at all c that are FRACTIONS."""
    own = taken_keeper(box)
    left = own
    for unit in [box_of(SPRING), box_of(MASS)] + [rim_pair(c) for c in ring_places(own)]:
        left = put_together(left, unit, negated(most_of(own, unit)))
    if left == STILL:
        raise CanNot()
    return left


def taken_late(value):
    return taken_number(value, 0, MOST_LATE)


def late_spring(amount, k):
    """The least damper with which a spring of amount, late by k beats, keeps."""
    own, many = taken_above(amount), taken_late(k)
    return mult(own, (2 * many, 1))


def late_mass(amount, k):
    """The same for a mass; None if it keeps with none."""
    own, many = taken_above(amount), taken_late(k)
    return mult(own, (2 * many, 1)) if many & 1 == 0 else None


def late_row(box, k):
    """A GIVING ROW of late(box, k)."""
    own, many = taken_small(box), taken_number(k, 1, MOST_LATE)
    tops = late(own, many)[0]
    place = [top != ZERO for top in tops].index(True)
    # The first answer comes when nothing else does: a push then brings it out.
    last = LESS if tops[place][0] > 0 else ONE
    return (ONE,) + (ZERO,) * (place - 1) + (last,)


def lag_damper(box, k, width):
    """A BRACKET of the least damper with which late(box, k) is a KEEPER; None if none does."""
    own, many, most = taken_small(box), taken_late(k), taken_width(width)
    return least_damper(late(own, many), most)


def lags_borne(box, e):
    """The set of all k from 0 to 3 such that late(box, k) with the damper e keeps."""
    own, amount = taken_small(box), taken_fraction(e)
    if cells_of(own) > MOST_BORNE:
        raise TooMany()
    return tuple([k for k in range(MOST_LATE + 1) if keeps_damped(late(own, k), amount)])


def wall_made(stiff, rub, k):
    """The spring and the damper, added up, k beats late."""
    return late(with_bottoms(box_of(("spring", stiff)), rub), k)


def wall(stiff, rub, k):
    """The spring stiff and the damper rub, added up, late by k beats."""
    own, beside, many = taken_above(stiff), taken_from(rub, 0), taken_late(k)
    return wall_made(own, beside, many)


def wall_damper(stiff, rub, k, width):
    """A BRACKET of the least damper with which that wall is a KEEPER."""
    own, beside, many, most = taken_above(stiff), taken_from(rub, 0), taken_late(k), taken_width(width)
    return least_damper(wall_made(own, beside, many), most)
