"""What is a BOX, its two POLYS, how it is made SMALL and how it moves."""

from keepcompany.checks import is_row, taken, taken_row, taken_row_of
from keepcompany.errors import CanNot, TooMany, Unfit
from keepcompany.polys import parted, scaled, trimmed
from keepcompany.ratios import ONE, ZERO, dot, minus, mult, over, plus, wholes
from keepcompany.rolls import machine_of, rolled
from keepcompany.wholepolys import divisor

MOST_CELLS = 5


def box_shaped(thing):
    if not isinstance(thing, tuple) or len(thing) != 2:
        return False
    tops, bottoms = thing
    if not is_row(tops) or not is_row(bottoms):
        return False
    if len(tops) != len(bottoms) or len(tops) == 0 or bottoms[0] != ONE:
        return False
    return any([own[0] != 0 for own in tops])


def polys_of(box):
    """The two POLYS of box: of its tops, of its bottoms."""
    tops, bottoms = box
    return trimmed(tops[::-1]), trimmed(bottoms[::-1])


def shared_of(box):
    """The common divisor of both POLYS of box, a list of whole numbers."""
    tops, bottoms = polys_of(box)
    return divisor(wholes(tops)[0], wholes(bottoms)[0])


def small_shaped(thing):
    return box_shaped(thing) and len(shared_of(thing)) == 1


def cells_of(box):
    """How many cells box has."""
    return len(box[1]) - 1


def made(tops, bottoms):
    """The SMALL BOX whose POLYS are tops and bottoms but for a common divisor."""
    if not tops:
        raise CanNot()
    shared = tuple([(own, 1) for own in divisor(wholes(tops)[0], wholes(bottoms)[0])])
    above, under = parted(tops, shared)[0], parted(bottoms, shared)[0]
    by = over(ONE, under[-1])
    above, under = scaled(above, by), scaled(under, by)
    lacking = (ZERO,) * (len(under) - len(above))
    return (lacking + above[::-1], under[::-1])


def made_bounded(tops, bottoms):
    """The same; TooMany if it has more than 5 cells."""
    box = made(tops, bottoms)
    if cells_of(box) > MOST_CELLS:
        raise TooMany()
    return box


def taken_box(value):
    return taken(value, 3, box_shaped)


def taken_small(value):
    """value, a SMALL BOX; else Unfit."""
    return taken(value, 3, small_shaped)


def taken_cells(value, box):
    return taken_row_of(value, cells_of(box))


def taken_heard(value):
    """value, a ROW that is not (); else Unfit."""
    kept = taken_row(value)
    if not kept:
        raise Unfit()
    return kept


def rest_of(box):
    return (ZERO,) * cells_of(box)


def stepped(box, cells, push):
    """The pair of the answer and the CELLS behind one beat."""
    tops, bottoms = box
    inner = minus(push, dot(bottoms[1:], cells))
    answer = plus(mult(tops[0], inner), dot(tops[1:], cells))
    return answer, (inner,) * min(1, len(cells)) + cells[:-1]


def moved(box, cells, pushes):
    """The pair of the answers to pushes and the CELLS behind the last one."""
    told, behind = rolled(machine_of(box), cells, pushes)
    return tuple([own[0] for own in told]), behind


def answers_of(box, pushes):
    """The answers of box, from REST, to pushes."""
    return moved(box, rest_of(box), pushes)[0]


def first_echoes(box, k):
    return answers_of(box, (ONE,) + (ZERO,) * (k - 1))
