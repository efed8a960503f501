"""Two BOXES JOINED: their beats, their LOOP, and whether they run away."""

from keepcompany.checks import is_row, taken, taken_number, taken_row_of, taken_table
from keepcompany.errors import CanNot, Stuck
from keepcompany.joints import away, joined_steps, loop_of, outside_of_both, stuck
from keepcompany.ratios import ZERO, dot, minus, plus
from keepcompany.shapes import rest_of, taken_cells, taken_small
from keepcompany.stores import bounds_of_cells, half_sum

MOST_BEATS = 40


def refuse_stuck(box, other):
    if stuck(box, other):
        raise Stuck()


def taken_pushes(value):
    """value, a ROW of at most 40; else Unfit."""
    return taken(value, 2, lambda row: is_row(row) and len(row) <= MOST_BEATS)


def is_stuck(box, other):
    """Whether box and other are STUCK."""
    own, second = taken_small(box), taken_small(other)
    return stuck(own, second)


def loop(box, other):
    """The LOOP of box and other, a POLY."""
    own, second = taken_small(box), taken_small(other)
    return loop_of(own, second)


def joined_beat(box, cells, other, other_cells):
    """The quadruple (push, answer, cells, other cells) of one JOINED BEAT."""
    own, start = taken_with_cells(box, cells)
    second, beside = taken_with_cells(other, other_cells)
    refuse_stuck(own, second)
    pairs, now, behind = joined_steps(own, start, second, beside, (ZERO,))
    return pairs[0] + (now, behind)


def taken_with_cells(box, cells):
    """The pair of box, a SMALL BOX, and cells, CELLS of it; else Unfit."""
    own = taken_small(box)
    return own, taken_cells(cells, own)


def joined_run(box, cells, other, other_cells, beats):
    """The triple (pairs, cells, other cells) of so many JOINED BEATS."""
    own, start = taken_with_cells(box, cells)
    second, beside = taken_with_cells(other, other_cells)
    many = taken_number(beats, 0, MOST_BEATS)
    refuse_stuck(own, second)
    return joined_steps(own, start, second, beside, (ZERO,) * many)


def pushed_run(box, cells, other, other_cells, pushes):
    """The triple (pairs, cells, other cells) of one beat with each of pushes as the outer push."""
    own, start = taken_with_cells(box, cells)
    second, beside = taken_with_cells(other, other_cells)
    outers = taken_pushes(pushes)
    refuse_stuck(own, second)
    return joined_steps(own, start, second, beside, outers)


def taken_worth(table, cells):
    """The pair of table, a TABLE, and half its sum over cells, as long a ROW; else Unfit."""
    own = taken_table(table)
    return own, half_sum(own, taken_row_of(cells, len(own)))


def joined_worth(table, cells, other_table, other_cells):
    """The WORTH by table at cells and that by other_table at other_cells, added up."""
    own, second = taken_worth(table, cells), taken_worth(other_table, other_cells)
    return plus(own[1], second[1])


def joined_bound(table, cells, other_table, other_cells):
    """What the square of each cell is at most while both WORTHS do not grow."""
    own, second = taken_worth(table, cells), taken_worth(other_table, other_cells)
    most = plus(own[1], second[1])
    if most[0] < 0:
        raise CanNot()
    return bounds_of_cells(own[0], most)


def runs_away(box, other):
    """Whether box and other run away; False if they are STUCK."""
    own, second = taken_small(box), taken_small(other)
    return away(own, second)


def outside_of(box, other):
    """OUTSIDE of the LOOP of box and other."""
    own, second = taken_small(box), taken_small(other)
    refuse_stuck(own, second)
    return outside_of_both(own, second)


def joined_gift(box, other, pushes):
    """The pair of the WORK of box and that of other under outer pushes from REST."""
    own, second = taken_small(box), taken_small(other)
    outers = taken_pushes(pushes)
    refuse_stuck(own, second)
    pairs = joined_steps(own, rest_of(own), second, rest_of(second), outers)[0]
    answers = tuple([answer for _, answer in pairs])
    work = dot(tuple([push for push, _ in pairs]), answers)
    whole = dot(outers, answers)
    # What other is pushed by is box's answer, and it answers what box's push lacks.
    return work, minus(whole, work)
