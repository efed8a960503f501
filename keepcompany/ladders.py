"""Told ECHOES step by step: where each lies in the stretch that those ahead leave it.

The middle of a stretch hangs on the ECHOES ahead, the last one first, each
times one of the weights. Behind a step that is -1 or 1 the stretch is one
FRACTION for good, and the weights stay as they are.
"""

from math import gcd

from keepcompany.errors import NoPaper
from keepcompany.grids import rounded_below
from keepcompany.ratios import (ONE, ZERO, below, dot, minus, mult, negated, over, plus, plus_rows,
                                times_row, wholes)
from keepcompany.shapes import made, polys_of
from keepcompany.works import table_of_echoes


def middle_by(weights, heard):
    """The middle of the stretch of the ECHO behind heard."""
    return dot(weights, heard[len(heard) - len(weights):][::-1])


def next_weights(weights, step):
    return plus_rows(weights, times_row(weights[::-1], negated(step))) + (step,)


def next_half(half, step):
    return mult(half, minus(ONE, mult(step, step)))


def climbed(heard):
    """The quadruple (steps, weights, half, off) up to the first of heard off its stretch.

    heard begins with no FRACTION below 0. half is half the length of the next
    stretch; off is how far from its middle that first one lies, 0 if there is none.
    """
    steps = []
    weights, half = (), plus(heard[0], heard[0])
    for k in range(1, len(heard)):
        off = minus(heard[k], middle_by(weights, heard[:k]))
        if below(half, (abs(off[0]), off[1])):
            return tuple(steps), weights, half, off
        step = ZERO
        if half != ZERO:
            step = over(off, half)
            weights, half = next_weights(weights, step), next_half(half, step)
        steps.append(step)
    return tuple(steps), weights, half, ZERO


def fall_of(heard):
    """The number of the first of heard that no KEEPER, nor nothing, could have; None if none is."""
    if heard[0][0] < 0:
        return 0
    many = len(climbed(heard)[0]) + 1
    return None if many == len(heard) else many


def row_against(heard):
    """As many pushes as heard, with WORK below 0 for all that begin with heard; NoPaper if there are none."""
    place = fall_of(heard)
    if place is None:
        raise NoPaper()
    row = (ONE,)
    if place > 0:
        # Forward and backward the weights' row has the sum half, both together off.
        weights, off = climbed(heard)[1], climbed(heard)[3]
        ahead = row + times_row(weights, (-1, 1)) + (ZERO,) * (place - len(weights))
        row = plus_rows(ahead, times_row(ahead[::-1], (-1 if off[0] > 0 else 1, 1)))
    numbers = wholes(row + (ZERO,) * (len(heard) - place - 1))[0]
    return rounded_below(table_of_echoes(heard), numbers)


def climbed_by(first, steps):
    """The ROW of the ECHOES that begin with first and have steps."""
    heard = (first,)
    weights, half = (), plus(first, first)
    for step in steps:
        heard += (plus(middle_by(weights, heard), mult(step, half)),)
        weights, half = next_weights(weights, step), next_half(half, step)
    return heard


def lowest(top, bottom, whole):
    """The FRACTION top over bottom; each prime divisor of bottom, which is above 0, divides whole."""
    shared = gcd(gcd(top, whole), bottom)
    while shared > 1:
        top //= shared
        bottom //= shared
        shared = gcd(gcd(top, whole), bottom)
    return top, bottom


def led_by(weights, heard, k):
    """heard and k ECHOES more, each the middle of its stretch."""
    many = len(weights)
    factors, scale = wholes(weights)
    numbers, unit = wholes(heard)
    now, bottom = numbers[len(heard) - many:], unit
    out = list(heard)
    for _ in range(k):
        # In whole numbers over one bottom: it grows long, but no prime divisor is new.
        top = sum([a * b for a, b in zip(factors, now[::-1])])
        bottom *= scale
        now = [own * scale for own in now[1:]] + [top] * min(1, many)
        out.append(lowest(top, bottom, unit * scale))
    return tuple(out)


def stretch_by(weights, half, heard):
    place = middle_by(weights, heard)
    return minus(place, half), plus(place, half)


def stretch_behind(heard):
    """The pair (low, high) of the least and the greatest ECHO behind heard, which can be."""
    weights, half = climbed(heard)[1:3]
    return stretch_by(weights, half, heard)


def box_by(weights, heard):
    """The BOX that begins with heard, behind which weights tell each ECHO."""
    bottoms = (ONE,) + times_row(weights, (-1, 1))
    tops = tuple([dot(bottoms[:k + 1], heard[:k + 1][::-1]) for k in range(len(bottoms))])
    above, under = polys_of((tops, bottoms))
    return made(above, under)


def middle_box(heard):
    """A KEEPER that begins with heard: all later ECHOES are the middles of their stretches."""
    return box_by(climbed(heard)[1], heard)


def last_box(heard, which):
    """The KEEPER that begins with heard and has then the low ECHO, which 0, or the high one."""
    weights, half = climbed(heard)[1:3]
    if half == ZERO:
        return box_by(weights, heard)
    last = stretch_by(weights, half, heard)[which]
    return box_by(next_weights(weights, (2 * which - 1, 1)), heard + (last,))
