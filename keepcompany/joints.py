"""PARTS as BOXES, and two BOXES JOINED: what the files from parts.py on share."""

from keepcompany.checks import is_fraction, taken
from keepcompany.polys import added, multiplied
from keepcompany.ratios import ONE, ZERO, minus, mult, negated, plus, wholes
from keepcompany.rolls import machine_of_both, rolled
from keepcompany.shapes import polys_of
from keepcompany.wholepolys import outside_count

KINDS = ("damper", "mass", "spring")


def part_shaped(thing):
    """Whether thing is a PART."""
    if not isinstance(thing, tuple) or len(thing) != 2:
        return False
    kind, amount = thing
    return isinstance(kind, str) and kind in KINDS and is_fraction(amount) and amount[0] > 0


def taken_part(value):
    return taken(value, 2, part_shaped)


def box_of(part):
    """The BOX of part."""
    kind, amount = part
    if kind == "damper":
        return (amount,), (ONE,)
    if kind == "spring":
        return (amount, amount), (ONE, (-1, 1))
    return (amount, negated(amount)), (ONE, ONE)


def held_box(p, q):
    """The BOX of the spring p and the mass q, from 0 and not both 0, answers added."""
    if q == ZERO:
        return box_of(("spring", p))
    if p == ZERO:
        return box_of(("mass", q))
    both, apart = plus(p, q), minus(p, q)
    return (both, plus(apart, apart), both), (ONE, ZERO, (-1, 1))


def first_lead(box, other):
    """What stands before the highest power of the LOOP: 0 if both are STUCK."""
    return plus(ONE, mult(box[0][0], other[0][0]))


def stuck(box, other):
    return first_lead(box, other) == ZERO


def loop_of(box, other):
    """The LOOP of both."""
    tops, bottoms = polys_of(box)
    tops_too, bottoms_too = polys_of(other)
    return added(multiplied(bottoms, bottoms_too), multiplied(tops, tops_too))


def outside_of_both(box, other):
    """OUTSIDE of the LOOP of both, which are not STUCK."""
    return outside_count(wholes(loop_of(box, other))[0])


def away(box, other):
    """Whether box runs away with other."""
    return not stuck(box, other) and outside_of_both(box, other) > 0


def joined_steps(box, cells, other, other_cells, outers):
    """The triple (pairs, cells, other cells) of one JOINED BEAT for each of outers."""
    told, behind = rolled(machine_of_both(box, other), cells + other_cells, outers)
    return tuple(told), behind[:len(cells)], behind[len(cells):]


def states_between(machine, cells, many):
    """The list of the CELLS behind each of so many beats with no outer push."""
    return rolled((machine[1], machine[1]), cells, (ZERO,) * many)[0]
