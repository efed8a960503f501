"""PARTS as BOXES, and two BOXES JOINED: what the files from parts.py on share."""

from keepcompany.checks import is_fraction, taken
from keepcompany.polys import added, multiplied
from keepcompany.ratios import ONE, ZERO, minus, mult, negated, over, plus, wholes
from keepcompany.shapes import polys_of, stepped
from keepcompany.wholepolys import outside_count

KINDS = ("damper", "mass", "spring")


def part_shaped(thing):
    """Whether thing is a PART."""
    if not isinstance(thing, tuple) or len(thing) != 2:
        return False
    kind, amount = thing
    return isinstance(kind, str) and kind in KINDS and is_fraction(amount) and amount[0] > 0


def taken_part(value):
    return taken(value, 2, part_shaped)


def box_of(part):
    """The BOX of part."""
    kind, amount = part
    if kind == "damper":
        return (amount,), (ONE,)
    if kind == "spring":
        return (amount, amount), (ONE, (-1, 1))
    return (amount, negated(amount)), (ONE, ONE)


def held_box(p, q):
    """The BOX of the spring p and the mass q, from 0 and not both 0, answers added."""
    if q == ZERO:
        return box_of(("spring", p))
    if p == ZERO:
        return box_of(("mass", q))
    both, apart = plus(p, q), minus(p, q)
    return (both, plus(apart, apart), both), (ONE, ZERO, (-1, 1))


def first_lead(box, other):
    """What stands before the highest power of the LOOP: 0 if both are STUCK."""
    return plus(ONE, mult(box[0][0], other[0][0]))


def stuck(box, other):
    return first_lead(box, other) == ZERO


def loop_of(box, other):
    """The LOOP of both."""
    tops, bottoms = polys_of(box)
    tops_too, bottoms_too = polys_of(other)
    return added(multiplied(bottoms, bottoms_too), multiplied(tops, tops_too))


def outside_of_both(box, other):
    """OUTSIDE of the LOOP of both, which are not STUCK."""
    return outside_count(wholes(loop_of(box, other))[0])


def away(box, other):
    """Whether box runs away with other."""
    return not stuck(box, other) and outside_of_both(box, other) > 0


def joined_step(box, cells, other, other_cells, outer):
    """The quadruple (push, answer, cells, other cells) of one JOINED BEAT with an outer push."""
    held = stepped(box, cells, ZERO)[0]
    back = plus(stepped(other, other_cells, ZERO)[0], mult(other[0][0], held))
    push = over(minus(outer, back), first_lead(box, other))
    answer, now = stepped(box, cells, push)
    return push, answer, now, stepped(other, other_cells, answer)[1]


def joined_steps(box, cells, other, other_cells, outers):
    """The triple (pairs, cells, other cells) of one such beat for each of outers."""
    pairs = []
    now, beside = cells, other_cells
    for outer in outers:
        push, answer, now, beside = joined_step(box, now, other, beside, outer)
        pairs.append((push, answer))
    return tuple(pairs), now, beside
