"""SLANTS and CURVES of BOXES."""

from keepcompany.checks import taken_between, taken_width
from keepcompany.errors import CanNot, Unfit
from keepcompany.polys import added, multiplied, valued
from keepcompany.ratios import ONE, ZERO, mult, wholes
from keepcompany.rims import (HIGH, LOW, curve_of, dips, keeps, parts_of, size_curve, slants_of)
from keepcompany.shapes import taken_small
from keepcompany.spans import between_spans, spans_of


def slants(box):
    """The SLANTS of box."""
    return slants_of(taken_small(box))


def curve(box):
    """The CURVE of box, a POLY."""
    return curve_of(taken_small(box))


def curve_at(box, c):
    """What the CURVE of box is at c."""
    own, place = taken_small(box), taken_between(c, -1, 1)
    return valued(curve_of(own), place)


def low_place(p):
    """A FRACTION from -1 to 1 at which the POLY p is below 0; None if there is none."""
    if not dips(p):
        return None
    # Between two roots the sign is one: the middle of each gap will tell it.
    places = between_spans(spans_of(wholes(p)[0], LOW, HIGH, ONE), LOW, HIGH)
    return [own for own in places if valued(p, own)[0] < 0][0]


def curve_below(box):
    """A FRACTION from -1 to 1 at which the CURVE is below 0; None if there is none."""
    return low_place(curve_of(taken_small(box)))


def touching_parts(box):
    """The parts of the CURVE of box; CanNot if it is () or below 0 somewhere."""
    own = curve_of(box)
    if not own or dips(own):
        raise CanNot()
    return parts_of(own)


def parts_of_curve(box):
    """The triple ((x, y), q, s): the CURVE is (1 - c)^x (1 + c)^y q q s."""
    return touching_parts(taken_small(box))


def touches(box, width):
    """Spans of the places strictly between -1 and 1 where the CURVE touches 0."""
    own, most = taken_small(box), taken_width(width)
    root = touching_parts(own)[1]
    return spans_of(wholes(root)[0], LOW, HIGH, most)


def is_loss_free(box):
    """Whether box is a KEEPER with the CURVE ()."""
    own = taken_small(box)
    return not curve_of(own) and keeps(own)


def rim_pair(c):
    """The LOSS-FREE BOX that rings for ever at the cosine c."""
    place = taken_between(c, -1, 1)
    if place in (LOW, HIGH):
        raise Unfit()
    return (ONE, ZERO, (-1, 1)), (ONE, mult((-2, 1), place), ONE)


def curve_of_sum(box, other):
    """The CURVE of the BOX that adds both answers, ahead of being made SMALL."""
    own, second = taken_small(box), taken_small(other)
    return added(multiplied(curve_of(own), size_curve(second)),
                 multiplied(curve_of(second), size_curve(own)))
