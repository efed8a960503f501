"""BOXES, alone or JOINED, as ROWS: what each beat makes of a push and the CELLS.

A machine is a pair of lists of ROWS, each over the outer push and, behind it,
all CELLS: those that tell what is asked of a beat, and those that make the
CELLS behind it. Its numbers are whole ones over one bottom, which grows from
beat to beat; so nothing is reduced but what is told.
"""

from keepcompany.ratios import (ONE, ZERO, fractions, minus, mult, over, plus, plus_rows, times_row,
                                wholes)


def unit_at(place, many):
    """The ROW of many with a 1 at place and 0 else."""
    return tuple([ONE if k == place else ZERO for k in range(many)])


def units_of(many):
    """The many ROWS with a 1 at one place and 0 else."""
    return [unit_at(place, many) for place in range(many)]


def held_row(box):
    """The ROW over CELLS of what box answers to a push of 0."""
    tops, bottoms = box
    return tuple([minus(top, mult(tops[0], bottom)) for top, bottom in zip(tops[1:], bottoms[1:])])


def kept_rows(inner, start, many):
    """The ROWS that make many CELLS, which begin at start: inner first, then those ahead."""
    return ([inner] + [unit_at(start + k, len(inner)) for k in range(many - 1)])[:many]


def machine_of(box):
    """The machine of box alone, which tells its answer."""
    tops, bottoms = box
    many = len(tops) - 1
    inner = (ONE,) + times_row(bottoms[1:], (-1, 1))
    answer = (tops[0],) + held_row(box)
    return [answer], kept_rows(inner, 1, many)


def machine_of_both(box, other):
    """The machine of both JOINED, which tells box's push and its answer; they are not STUCK."""
    many, others = len(box[0]) - 1, len(other[0]) - 1
    held = (ZERO,) + held_row(box) + (ZERO,) * others
    back = (ZERO,) * (1 + many) + held_row(other)
    by = over(ONE, plus(ONE, mult(box[0][0], other[0][0])))
    less = plus_rows(times_row(held, other[0][0]), back)
    push = times_row(plus_rows(unit_at(0, len(held)), times_row(less, (-1, 1))), by)
    answer = plus_rows(times_row(push, box[0][0]), held)
    inner = plus_rows(push, (ZERO,) + times_row(box[1][1:], (-1, 1)) + (ZERO,) * others)
    beside = plus_rows(answer, (ZERO,) * (1 + many) + times_row(other[1][1:], (-1, 1)))
    return [push, answer], kept_rows(inner, 1, many) + kept_rows(beside, 1 + many, others)


def rolled(machine, cells, outers):
    """The pair of the ROWS told, one for each of outers, and the CELLS behind the last one."""
    told, makes = machine
    wide = len(cells) + 1
    numbers, scale = wholes(tuple([own for row in told + makes for own in row]))
    rows = [numbers[k * wide:(k + 1) * wide] for k in range(len(told) + len(makes))]
    state, unit = wholes(cells + outers)
    now, pushes = state[:len(cells)], state[len(cells):]
    grown = 1
    out = []
    for push in pushes:
        seen = [push * grown] + now
        made = [sum([a * b for a, b in zip(row, seen) if a != 0]) for row in rows]
        grown *= scale
        out.append(fractions(made[:len(told)], unit * grown))
        now = made[len(told):]
    return out, fractions(now, unit * grown)
