"""BOXES: their beats, their ECHOES, and what is made of them."""

from keepcompany.checks import taken_fraction, taken_number, taken_row
from keepcompany.errors import CanNot, TooMany
from keepcompany.polys import added, multiplied, scaled
from keepcompany.ratios import ZERO
from keepcompany.shapes import (MOST_CELLS, box_shaped, cells_of, first_echoes, made, made_bounded,
                                moved, polys_of, rest_of, shared_of, stepped, taken_box, taken_cells)


def is_box(thing):
    """Whether thing is a BOX."""
    return box_shaped(thing)


def is_small(box):
    """Whether the two POLYS of box have no common divisor but numbers."""
    return len(shared_of(taken_box(box))) == 1


def made_small(box):
    """The SMALL BOX with the answers of box from REST."""
    tops, bottoms = polys_of(taken_box(box))
    return made(tops, bottoms)


def rest(box):
    """REST: CELLS of 0s."""
    return rest_of(taken_box(box))


def beat(box, cells, push):
    """The pair of the answer to push and the CELLS behind it."""
    own = taken_box(box)
    return stepped(own, taken_cells(cells, own), taken_fraction(push))


def run(box, cells, pushes):
    """The pair of the answers to pushes and the CELLS behind the last one."""
    own = taken_box(box)
    return moved(own, taken_cells(cells, own), taken_row(pushes))


def echoes(box, k):
    """The first k answers, from REST, to the pushes 1, 0, 0, .."""
    own = taken_box(box)
    return first_echoes(own, taken_number(k, 1, None))


def summed(box, other):
    """The SMALL BOX that adds up the answers of both to one push."""
    tops, bottoms = polys_of(taken_box(box))
    tops_too, bottoms_too = polys_of(taken_box(other))
    above = added(multiplied(tops, bottoms_too), multiplied(tops_too, bottoms))
    return made_bounded(above, multiplied(bottoms, bottoms_too))


def times(box, f):
    """The SMALL BOX that answers f times what box answers."""
    tops, bottoms = polys_of(taken_box(box))
    return made_bounded(scaled(tops, taken_fraction(f)), bottoms)


def late(box, k):
    """The SMALL BOX that answers k beats later than box."""
    tops, bottoms = polys_of(taken_box(box))
    lag = taken_number(k, 0, None)
    ahead = made(tops, bottoms)
    above, under = polys_of(ahead)
    spare = 0
    while spare < lag and above[spare] == ZERO:
        spare += 1
    # Counted before they are laid out: lag may be large.
    if cells_of(ahead) + lag - spare > MOST_CELLS:
        raise TooMany()
    return made(above[spare:], (ZERO,) * (lag - spare) + under)


def turned(box):
    """The SMALL BOX in which push and answer of box have changed places."""
    own = taken_box(box)
    if own[0][0] == ZERO:
        raise CanNot()
    tops, bottoms = polys_of(own)
    return made_bounded(bottoms, tops)
