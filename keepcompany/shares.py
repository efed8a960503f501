"""SHARES: how much of a damper a BOX can spare, or wants."""

from keepcompany.boxes import summed
from keepcompany.checks import taken_fraction, taken_from, taken_width
from keepcompany.errors import CanNot, Stuck
from keepcompany.keepers import damper_enough, widths_wanted
from keepcompany.points import pair_shaped
from keepcompany.ratios import ONE, ZERO, mult, negated, over, plus, plus_rows, times_row
from keepcompany.rims import keeps, with_bottoms
from keepcompany.runaways import pair_found
from keepcompany.shapes import taken_small
from keepcompany.steps import first_above
from keepcompany.stores import store_found, store_shaped

FAR = 2 ** 20
NOUGHTS = ((0, 1), (0, 1))


def answers_nothing(box):
    """Whether all tops are 0."""
    return all([own == ZERO for own in box[0]])


def keeps_damped(box, e):
    """Whether with the damper e box is a KEEPER, or answers nothing."""
    found = with_bottoms(box, e)
    return answers_nothing(found) or keeps(found)


def is_share_of(box, e):
    return keeps_damped(box, negated(e))


def bracket_at(width, many):
    """The pair of so many widths less one, and so many."""
    return mult(width, (many - 1, 1)), mult(width, (many, 1))


def bracket(width, low, high, holds):
    """The pair of the widths, so many of them, next to the least number at which holds is so."""
    return bracket_at(width, first_above(low, high, holds))


def steps_to(e, width):
    """A number of widths that is above e."""
    steps = over(e, width)
    return steps[0] // steps[1] + 1


def with_damper(box, e):
    """The BOX (tops and e times bottoms added up, bottoms)."""
    found = with_bottoms(taken_small(box), taken_fraction(e))
    if answers_nothing(found):
        raise CanNot()
    return found


def share_bracket(box, width):
    """A BRACKET of the greatest SHARE; None if there is no SHARE."""
    # No KEEPER's first top is below 0, so none above it is a SHARE.
    low, high = -1, steps_to(box[0][0], width)
    if not is_share_of(box, ZERO):
        enough = damper_enough(box)
        if enough is None:
            return None
        low, high = -steps_to((enough, 1), width) - 1, 0
    return bracket(width, low, high, lambda k: not is_share_of(box, mult(width, (k, 1))))


def share(box, width):
    """A BRACKET of the greatest SHARE of box; None if there is no SHARE."""
    own, most = taken_small(box), taken_width(width)
    return share_bracket(own, most)


def share_papers(box, low, high):
    """A STORE of box with the damper -low, and a PAIR of it with the damper -high."""
    own, start, end = taken_small(box), taken_fraction(low), taken_fraction(high)
    if not is_share_of(own, start) or is_share_of(own, end):
        raise CanNot()
    ahead, behind = with_bottoms(own, negated(start)), with_bottoms(own, negated(end))
    stored = () if answers_nothing(ahead) else store_found(ahead)
    return stored, pair_found(behind)


def is_share(box, low, high, thing):
    """Whether thing is such a pair."""
    own, start, end = taken_small(box), taken_fraction(low), taken_fraction(high)
    if not isinstance(thing, tuple) or len(thing) != 2:
        return False
    ahead, behind = with_bottoms(own, negated(start)), with_bottoms(own, negated(end))
    # The papers themselves show that the one is a SHARE, and the other none.
    if answers_nothing(behind) or not pair_shaped(behind, thing[1]):
        return False
    return thing[0] == () if answers_nothing(ahead) else store_shaped(ahead, thing[0])


def least_damper(box, width):
    """A BRACKET of the least damper with which box is a KEEPER; None if there is no SHARE."""
    own, most = taken_small(box), taken_width(width)
    if keeps(own):
        return NOUGHTS
    many = widths_wanted(own, most)
    return None if many is None else bracket_at(most, many)


def lead_with(box, e):
    """1 and e times the first top: what a damper e divides box's push by."""
    return plus(ONE, mult(e, box[0][0]))


def inner_of(box, e):
    """The BOX (tops, bottoms and e times tops added up), divided by its first bottom, not 0."""
    tops, bottoms = box
    by = over(ONE, lead_with(box, e))
    return times_row(tops, by), times_row(plus_rows(bottoms, times_row(tops, e)), by)


def inner_share(box, e):
    """The BOX that box and the damper e, JOINED, are to whoever else joins."""
    own, amount = taken_small(box), taken_from(e, 0)
    if lead_with(own, amount) == ZERO:
        raise Stuck()
    return inner_of(own, amount)


def stands(box, e):
    """Whether box stands e."""
    return lead_with(box, e) != ZERO and keeps(inner_of(box, e))


def keeps_with_share(box, e):
    """Whether box is neither STUCK nor runs away with any KEEPER that has the SHARE e."""
    own, amount = taken_small(box), taken_from(e, 0)
    return stands(own, amount)


def safe_from(box, width):
    """A BRACKET of the least SHARE that box stands; None if it does not stand 2 ** 20."""
    own, most = taken_small(box), taken_width(width)
    if stands(own, ZERO):
        return NOUGHTS
    if not stands(own, (FAR, 1)):
        return None
    return bracket(most, 0, steps_to((FAR, 1), most), lambda k: stands(own, mult(most, (k, 1))))


def pair_of_share(box, e):
    """A PAIR but that the damper e is added to the spring and the mass."""
    own, amount = taken_small(box), taken_from(e, 0)
    if lead_with(own, amount) == ZERO:
        raise Stuck()
    return pair_found(inner_of(own, amount))


def is_pair_of_share(box, e, thing):
    """Whether thing is such a quadruple."""
    own, amount = taken_small(box), taken_from(e, 0)
    return lead_with(own, amount) != ZERO and pair_shaped(inner_of(own, amount), thing)


def share_of_sum(box, other, width):
    """A BRACKET of the greatest SHARE of summed(box, other)."""
    own, second, most = taken_small(box), taken_small(other), taken_width(width)
    return share_bracket(summed(own, second), most)
