"""BOXES mixed, and crowds of them: which keep."""

from keepcompany.checks import taken_fraction, taken_width
from keepcompany.errors import CanNot, NoPaper, TooMany, Unfit
from keepcompany.keepers import damper_enough
from keepcompany.polys import added, multiplied, scaled
from keepcompany.ratios import ONE, ZERO, below, mult
from keepcompany.rims import keeps
from keepcompany.shapes import MOST_CELLS, cells_of, made, made_bounded, polys_of, taken_small
from keepcompany.shares import FAR, NOUGHTS, bracket, bracket_at, keeps_damped, steps_to
from keepcompany.steps import first_above

MOST_BOXES = 6
# What answers nothing: no BOX, but what a crowd may come to.
STILL = (((0, 1),), ((1, 1),))


def taken_boxes(value):
    """value, a tuple of 1 to 6 SMALL BOXES; else Unfit."""
    if not isinstance(value, (list, tuple)) or not 1 <= len(value) <= MOST_BOXES:
        raise Unfit()
    return [taken_small(own) for own in value]


def sum_polys(box, other, k):
    """The POLYS of the answers of box and k times those of other, added up."""
    tops, bottoms = polys_of(box)
    tops_too, bottoms_too = polys_of(other)
    above = added(multiplied(tops, bottoms_too), scaled(multiplied(tops_too, bottoms), k))
    return above, multiplied(bottoms, bottoms_too)


def mixed(box, other, k):
    """The BOX that answers what box answers and k times what other answers."""
    own, second, f = taken_small(box), taken_small(other), taken_fraction(k)
    tops, bottoms = sum_polys(own, second, f)
    return made_bounded(tops, bottoms)


def put_together(box, other, k):
    """The same of whatever size; STILL if it answers nothing."""
    tops, bottoms = sum_polys(box, other, k)
    return made(tops, bottoms) if tops else STILL


def keeps_mixed(box, other, k):
    return keeps_damped(put_together(box, other, k), ZERO)


def refuse_many(box, other):
    """TooMany if both have more than 5 cells together."""
    if cells_of(box) + cells_of(other) > MOST_CELLS:
        raise TooMany()


def keep_span(box, other, width):
    """A BRACKET of the k up to which box and other, mixed by k, keep; None without end."""
    own, second, most = taken_small(box), taken_small(other), taken_width(width)
    if not keeps(own):
        raise CanNot()
    refuse_many(own, second)
    if keeps(second):
        return None
    if keeps_mixed(own, second, (FAR, 1)):
        raise TooMany()
    return bracket(most, 0, steps_to((FAR, 1), most),
                   lambda k: not keeps_mixed(own, second, mult(most, (k, 1))))


def is_keep_span(box, other, low, high):
    """Whether mixed by low, from 0, they keep, and mixed by high, above low, they don't."""
    own, second = taken_small(box), taken_small(other)
    start, end = taken_fraction(low), taken_fraction(high)
    refuse_many(own, second)
    if below(start, ZERO) or not below(start, end):
        return False
    return keeps_mixed(own, second, start) and not keeps_mixed(own, second, end)


def bounded(box):
    """box; TooMany if it has more than 5 cells."""
    if cells_of(box) > MOST_CELLS:
        raise TooMany()
    return box


def crowd_of(boxes):
    """What boxes answer together; TooMany if that has more than 5 cells."""
    out = STILL
    for own in boxes:
        out = put_together(out, own, ONE)
    return bounded(out)


def crowd(boxes):
    """The BOX that adds up the answers of all boxes."""
    found = crowd_of(taken_boxes(boxes))
    if found == STILL:
        raise CanNot()
    return found


def crowds_of_lots(boxes):
    """The list of pairs (lot, crowd) of all lots, ascending."""
    many = len(boxes)
    lots = sorted([tuple([k for k in range(many) if (mask >> k) & 1]) for mask in range(1, 1 << many)])
    found = {(): STILL}
    for lot in lots:
        # The lot but for its last place stands ahead of it.
        found[lot] = bounded(put_together(found[lot[:-1]], boxes[lot[-1]], ONE))
    return [(lot, found[lot]) for lot in lots]


def kept_lots(boxes):
    return [lot for lot, own in crowds_of_lots(boxes) if keeps_damped(own, ZERO)]


def lots_that_keep(boxes):
    """The ascending list of the lots whose crowd keeps."""
    return kept_lots(taken_boxes(boxes))


def is_part_of(lot, other):
    """Whether lot is a lesser part of other."""
    return len(lot) < len(other) and all([place in other for place in lot])


def least_lots(boxes):
    """The ascending list of the lots that keep and of which no lesser part does."""
    kept = kept_lots(taken_boxes(boxes))
    return [lot for lot in kept if not any([is_part_of(own, lot) for own in kept])]


def pairs_that_keep(boxes):
    """The ascending list of the lots of two whose crowd keeps."""
    own = taken_boxes(boxes)
    pairs = [(i, j) for i in range(len(own)) for j in range(i + 1, len(own))]
    crowds = [crowd_of((own[i], own[j])) for i, j in pairs]
    return [lot for lot, one in zip(pairs, crowds) if keeps_damped(one, ZERO)]


def spoilers(boxes):
    """The set of the places without which the crowd of the others keeps."""
    own = taken_boxes(boxes)
    whole = crowd_of(own)
    if len(own) == 1:
        return ()
    others = [crowd_of(own[:k] + own[k + 1:]) for k in range(len(own))]
    if keeps_damped(whole, ZERO):
        return ()
    return tuple([k for k, one in enumerate(others) if keeps_damped(one, ZERO)])


def widths_to_keep(box, width, many):
    """The least number of widths of damper, above many, with which box keeps; None if none do."""
    enough = damper_enough(box)
    if enough is None:
        return None
    return first_above(many, steps_to((enough, 1), width), lambda k: keeps_damped(box, mult(width, (k, 1))))


def damper_for_all(boxes, width):
    """A BRACKET of the least damper with which the crowd of each lot keeps; None if none does."""
    own, most = taken_boxes(boxes), taken_width(width)
    many = 0
    for _, one in crowds_of_lots(own):
        if not keeps_damped(one, mult(most, (many, 1))):
            many = widths_to_keep(one, most, many)
            if many is None:
                return None
    return bracket_at(most, many) if many > 0 else NOUGHTS


def failing_lot(boxes, e):
    """A lot whose crowd with the damper e doesn't keep."""
    own, amount = taken_boxes(boxes), taken_fraction(e)
    for lot, one in crowds_of_lots(own):
        if not keeps_damped(one, amount):
            return lot
    raise NoPaper()
