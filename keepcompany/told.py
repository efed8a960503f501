"""Told ECHOES: whether a KEEPER begins with them, and what can follow."""

from keepcompany.checks import is_row_of, taken_above, taken_number, taken_row
from keepcompany.errors import CanNot, Unfit
from keepcompany.ladders import (climbed, climbed_by, fall_of, last_box, led_by, middle_box, row_against,
                                 stretch_behind)
from keepcompany.ratios import ONE, ZERO, table_sum
from keepcompany.works import table_of_echoes

MOST_HEARD = 12
MOST_LED = 40


def taken_echoes(value):
    """value, a ROW of 1 to 12 FRACTIONS; else Unfit."""
    kept = taken_row(value)
    if not 1 <= len(kept) <= MOST_HEARD:
        raise Unfit()
    return kept


def silent(heard):
    """Whether all of heard are 0."""
    return all([own == ZERO for own in heard])


def taken_told(value):
    """value, a ROW of 1 to 12 FRACTIONS, not all 0; else Unfit."""
    kept = taken_echoes(value)
    if silent(kept):
        raise Unfit()
    return kept


def taken_which(value):
    return taken_number(value, 0, 1)


def refuse_off(heard):
    if fall_of(heard) is not None:
        raise CanNot()


def can_be(heard):
    """Whether some KEEPER begins with heard."""
    return fall_of(taken_told(heard)) is None


def first_off(heard):
    """The least number of the first ones of heard that can't be; None if heard can be."""
    own = taken_told(heard)
    # So nothing could begin, but no KEEPER.
    if own[0] == ZERO:
        return 1
    fall = fall_of(own)
    return None if fall is None else fall + 1


def speaks_against(heard, thing):
    """Whether thing is as many pushes as heard, with WORK below 0 for all that begin with heard."""
    return is_row_of(thing, len(heard)) and table_sum(table_of_echoes(heard), thing)[0] < 0


def row_for_all(heard):
    """A ROW of as many pushes as heard, with WORK below 0 for all BOXES that begin with heard."""
    return row_against(taken_told(heard))


def is_row_for_all(heard, thing):
    """Whether thing is such a ROW."""
    return speaks_against(taken_told(heard), thing)


def next_stretch(heard):
    """The pair (low, high) of the least and the greatest next echo."""
    own = taken_told(heard)
    refuse_off(own)
    return stretch_behind(own)


def led_on(heard, k):
    """heard and k echoes more, each the middle of its stretch."""
    own, many = taken_told(heard), taken_number(k, 0, MOST_LED)
    refuse_off(own)
    return led_by(climbed(own)[1], own, many)


def end_box(heard, which):
    """The KEEPER that begins with heard and has then the low next echo, or the high one."""
    own, end = taken_told(heard), taken_which(which)
    refuse_off(own)
    return last_box(own, end)


def some_box(heard):
    """A KEEPER that begins with heard."""
    own = taken_told(heard)
    refuse_off(own)
    return middle_box(own)


def only_one(heard):
    """The only KEEPER that begins with heard; None if there are more."""
    own = taken_told(heard)
    refuse_off(own)
    return middle_box(own) if climbed(own)[2] == ZERO else None


def steps_of(heard):
    """The ROW of the steps of heard, one for each echo but the first."""
    own = taken_told(heard)
    refuse_off(own)
    return climbed(own)[0]


def taken_steps(value):
    """value, a ROW of steps, 0s alone behind the first that is -1 or 1; else Unfit."""
    kept = taken_row(value)
    if len(kept) >= MOST_HEARD or any([abs(top) > bottom for top, bottom in kept]):
        raise Unfit()
    ends = [k for k, own in enumerate(kept) if own in (ONE, (-1, 1))]
    if ends and not silent(kept[ends[0] + 1:]):
        raise Unfit()
    return kept


def from_steps(first, steps):
    """The ROW of the echoes that begin with first and have steps."""
    start = taken_above(first)
    return climbed_by(start, taken_steps(steps))
