"""KEEPERS and GIVERS, and the papers that show which of the two a BOX is."""

from keepcompany.checks import is_fraction, taken_number, taken_width
from keepcompany.curves import low_place
from keepcompany.errors import CanNot, NoPaper, Unfit
from keepcompany.grids import first_fall
from keepcompany.polys import parted, scaled, shared_part, valued
from keepcompany.ratios import ZERO, below, mult, plus, wholes
from keepcompany.rims import (HIGH, LOW, curve_of, depth_of, fails_damper, keeps, size_curve,
                              with_bottoms)
from keepcompany.shapes import taken_small
from keepcompany.steps import first_above
from keepcompany.stores import store_found, store_shaped
from keepcompany.wholepolys import count_between, sign_at
from keepcompany.works import MOST_PUSHES, table_up_to


def is_keeper(box):
    """Whether box is a KEEPER."""
    return keeps(taken_small(box))


def refusal(box):
    """A PAPER of box whose word is "curve" or "damper"; None for a KEEPER."""
    place = low_place(curve_of(box))
    if place is not None:
        return ("curve", place)
    return ("damper",) if fails_damper(box) else None


def paper(box):
    """A PAPER of box: a STORE, a place of its CURVE, or the plain damper."""
    own = taken_small(box)
    found = refusal(own)
    return ("store", store_found(own)) if found is None else found


def refuses(box, thing):
    """Whether thing is a PAPER of box whose word is "curve" or "damper"."""
    if not isinstance(thing, tuple) or len(thing) not in (1, 2):
        return False
    if len(thing) == 1:
        return thing[0] == "damper" and fails_damper(box)
    word, told = thing
    if word != "curve" or not is_fraction(told):
        return False
    if below(told, LOW) or below(HIGH, told):
        return False
    return valued(curve_of(box), told)[0] < 0


def is_paper(box, thing):
    """Whether thing is a PAPER of box."""
    own = taken_small(box)
    if isinstance(thing, tuple) and len(thing) == 2 and thing[0] == "store":
        return store_shaped(own, thing[1])
    return refuses(own, thing)


def why_not(box):
    """A PAPER of box, a GIVER."""
    found = refusal(taken_small(box))
    if found is None:
        raise NoPaper()
    return found


def keeps_turned(box):
    """Whether the turned BOX is a KEEPER."""
    own = taken_small(box)
    if own[0][0] == ZERO:
        raise CanNot()
    return keeps(own)


def keeps_by_rows(box, k):
    """Whether no row of at most k pushes is a GIVING ROW of box."""
    own = taken_small(box)
    return first_fall(table_up_to(own, taken_number(k, 0, MOST_PUSHES))) is None


def touches_rim(p):
    """Whether the POLY p, not (), has a root from -1 to 1, both ends in."""
    numbers = wholes(p)[0]
    if sign_at(numbers, LOW) == 0 or sign_at(numbers, HIGH) == 0:
        return True
    return count_between(numbers, LOW, HIGH) > 0


def without_shared(p, q):
    """The pair of the POLYS p and q, both divided by their common divisor."""
    shared = shared_part(p, q)
    return parted(p, shared)[0], parted(q, shared)[0]


def spares_none(box):
    """Whether box is a KEEPER and no damper can be taken off it."""
    if not keeps(box):
        return False
    shape = curve_of(box)
    if not shape:
        return True
    # A damper takes away as much as the size of bottoms: what the CURVE has
    # above 0 bears a little of that but where it is 0 more often.
    return touches_rim(without_shared(shape, size_curve(box))[0])


def is_border(box):
    """Whether box is a KEEPER and has no SHARE above 0."""
    return spares_none(taken_small(box))


def damped(box, e):
    """The KEEPER that is box and a damper e, or None if it is none."""
    found = with_bottoms(box, e)
    if all([own == ZERO for own in found[0]]) or not keeps(found):
        return None
    return found


def damper_enough(box):
    """A number that is a damper with which box is a KEEPER; None if none does."""
    shape, size = without_shared(curve_of(box), size_curve(box))
    if touches_rim(size):
        return None
    # The divisor may have been below 0 all the way.
    if valued(size, ZERO)[0] < 0:
        size = scaled(size, (-1, 1))
    numbers, bottom = wholes(shape)
    most = sum([abs(own) for own in numbers]) // bottom + 1
    amount = most << depth_of(size)
    return None if damped(box, (amount, 1)) is None else amount


def widths_wanted(box, width):
    """How many widths of damper make box, a GIVER, a KEEPER, at the least; None if none do."""
    enough = damper_enough(box)
    if enough is None:
        return None
    return first_above(0, enough * width[1] // width[0] + 1,
                       lambda k: damped(box, mult(width, (k, 1))) is not None)


def nearest_keeper(box, width):
    """box, or box and a damper such that with width less of it it is no KEEPER."""
    own, most = taken_small(box), taken_width(width)
    if keeps(own):
        return own
    many = widths_wanted(own, most)
    if many is None:
        raise NoPaper()
    return damped(own, mult(most, (many, 1)))


def echo_bound(box):
    """Twice tops[0], which no ECHO of a KEEPER passes."""
    own = taken_small(box)
    if not keeps(own):
        raise CanNot()
    return plus(own[0][0], own[0][0])


def keepers_of(boxes):
    """The set of the places of the KEEPERS among boxes."""
    if not isinstance(boxes, (list, tuple)):
        raise Unfit()
    kept = [taken_small(own) for own in boxes]
    return tuple([k for k, own in enumerate(kept) if keeps(own)])
