"""A hole of a BOX, in which is what nobody knows: what the outer echoes tell of it."""

from keepcompany.checks import taken_fraction
from keepcompany.errors import CanNot, Stuck
from keepcompany.joints import loop_of, stuck
from keepcompany.ladders import fall_of, last_box, row_against, stretch_behind
from keepcompany.polys import multiplied
from keepcompany.ratios import ONE, ZERO, below, mult, over, plus, plus_rows, times_row
from keepcompany.series import one_over
from keepcompany.shapes import first_echoes, made_bounded, polys_of, taken_small
from keepcompany.told import refuse_off, silent, taken_echoes, taken_which


def refuse_nought(number):
    if number == ZERO:
        raise CanNot()


def turned_echoes(box, k):
    """The first k numbers of what box, whose tops[0] is not 0, answers to, upside down."""
    return one_over(first_echoes(box, k))


def inner_of_outer(box, outer):
    """The inner echoes that outer tells of; CanNot if the first of box or of outer is 0."""
    refuse_nought(box[0][0])
    refuse_nought(outer[0])
    return plus_rows(one_over(outer), times_row(turned_echoes(box, len(outer)), (-1, 1)))


def outer_of_inner(box, within):
    """The outer echoes that within, the inner ones, make; box is not STUCK with them."""
    return one_over(plus_rows(turned_echoes(box, len(within)), within))


def taken_for_hole(box, outer):
    """The inner echoes, for arguments as they are handed in, and box."""
    own, told = taken_small(box), taken_echoes(outer)
    return own, inner_of_outer(own, told)


def outer_of(box, other):
    """The BOX that has the outer echoes as its own, with other in the hole of box."""
    own, second = taken_small(box), taken_small(other)
    if stuck(own, second):
        raise Stuck()
    return made_bounded(multiplied(polys_of(own)[0], polys_of(second)[1]), loop_of(own, second))


def inner_echoes(box, outer):
    """As many inner echoes as outer has outer ones."""
    return taken_for_hole(box, outer)[1]


def outer_echoes(box, within):
    """As many outer echoes as within has inner ones."""
    own, told = taken_small(box), taken_echoes(within)
    refuse_nought(own[0][0])
    if plus(ONE, mult(own[0][0], told[0])) == ZERO:
        raise Stuck()
    return outer_of_inner(own, told)


def could_show(box, outer):
    """Whether a KEEPER, or nothing, in the hole shows outer."""
    return fall_of(taken_for_hole(box, outer)[1]) is None


def why_none(box, outer):
    """As many pushes as outer, into the hole, with WORK below 0 for all that show outer."""
    return row_against(taken_for_hole(box, outer)[1])


def first_strange(box, outer):
    """The least number of the first ones of outer that it could not show; None if there is none."""
    fall = fall_of(taken_for_hole(box, outer)[1])
    return None if fall is None else fall + 1


def inner_stretch(within):
    """The least and the greatest inner echo behind within, which can be, or is of nothing."""
    return (ZERO, ZERO) if silent(within) else stretch_behind(within)


def next_outer(box, outer):
    """The pair (low, high) of the least and the greatest next outer echo."""
    own, within = taken_for_hole(box, outer)
    refuse_off(within)
    # The greater the inner echo is, the less is the outer one.
    least, most = inner_stretch(within)
    return outer_of_inner(own, within + (most,))[-1], outer_of_inner(own, within + (least,))[-1]


def outer_end(box, outer, which):
    """The KEEPER in the hole with which the next outer echo is low, or high; None for nothing."""
    own, told = taken_small(box), taken_echoes(outer)
    end = taken_which(which)
    within = inner_of_outer(own, told)
    refuse_off(within)
    return None if silent(within) else last_box(within, 1 - end)


def is_first(box, number):
    """Whether number can be the first outer echo."""
    own, told = taken_small(box), taken_fraction(number)
    refuse_nought(own[0][0])
    return told != ZERO and not below(over(ONE, told), over(ONE, own[0][0]))


def same_inside(box, outer, other, other_outer):
    """Whether one KEEPER, or nothing, could show outer here and other_outer there."""
    own, told = taken_small(box), taken_echoes(outer)
    second, told_too = taken_small(other), taken_echoes(other_outer)
    within, within_too = inner_of_outer(own, told), inner_of_outer(second, told_too)
    many = min(len(within), len(within_too))
    longer = within if len(within) > many else within_too
    return within[:many] == within_too[:many] and fall_of(longer) is None
