"""PAIRS: papers of four fractions that a BOX is a GIVER."""

from keepcompany.alone import part_that_runs
from keepcompany.checks import (is_row, is_row_of, taken, taken_above, taken_fraction, taken_from, taken_number,
                                taken_width)
from keepcompany.errors import NoPaper, TooMany, Unfit
from keepcompany.grids import whole_solved
from keepcompany.joints import away, box_of, held_box, loop_of, states_between, taken_part
from keepcompany.nearby import zero_near
from keepcompany.points import four_shaped, other_of, pair_by, pair_shaped, size_of
from keepcompany.ratios import (ONE, ZERO, below, fractions, minus, mult, negated, over, plus, plus_rows,
                                times_row, wholes)
from keepcompany.rims import keeps
from keepcompany.rolls import machine_of_both, rolled, units_of
from keepcompany.shapes import cells_of, polys_of, rest_of, taken_small
from keepcompany.spans import between_spans, ceiling, spans_of
from keepcompany.wholepolys import product_of, sign_at

MOST_BEATS = 40
MOST_DEEP = 30
LONGEST = 60


def taken_four(value):
    """value, a quadruple as PAIRS are; else Unfit."""
    return taken(value, 2, four_shaped)


def taken_pair(value, box):
    """value, a PAIR of box; else Unfit."""
    kept = taken_four(value)
    if not pair_shaped(box, kept):
        raise Unfit()
    return kept


def real_pair(box):
    """A PAIR of box with b 0; None if there is none."""
    tops, bottoms = polys_of(box)
    numbers = product_of(wholes(tops)[0], wholes(bottoms)[0])
    far = (max(2, ceiling(numbers)), 1)
    for low, high in ((ONE, far), (negated(far), (-1, 1))):
        for place in between_spans(spans_of(numbers, low, high, ONE), low, high):
            if sign_at(numbers, place) < 0:
                return pair_by(box, place, ZERO) + (place, ZERO)
    return None


def other_that_runs(box):
    """The BOX of a damper, or of a spring and a mass, with which box runs away."""
    kind, amount = part_that_runs(box)
    if kind == "damper":
        return box_of((kind, amount))
    # A little of the other one is added: what runs goes on running with it.
    more = amount
    while True:
        found = held_box(amount, more) if kind == "spring" else held_box(more, amount)
        if away(box, found):
            return found
        more = mult(more, (1, 2))


def pair_found(box):
    """A PAIR of box; NoPaper if it is a KEEPER."""
    if keeps(box):
        raise NoPaper()
    found = real_pair(box)
    if found is not None:
        return found
    # Near a zero that is not real the amounts of springs and masses come near
    # to those that are joined, or that a damper stands for: both above 0.
    numbers = wholes(loop_of(box, other_that_runs(box)))[0]
    deep = 1
    while found is None:
        across, up = zero_near(numbers, (1, 1 << deep))
        found = near_by(box, across, up, deep)
        deep += deep // 2 + 1
    return found


def near_by(box, across, up, deep):
    """A PAIR of box at across and up, or 1 / 2 ** deep beside; None if there is none."""
    step = (1, 1 << deep)
    less = minus(up, step)
    ups = [up, plus(up, step), less if less[0] >= 0 else negated(less)]
    for b in ups:
        for a in (across, minus(across, step), plus(across, step)):
            found = pair_by(box, a, b)
            if found is not None:
                return found + (a, b)
    return None


def pair(box):
    """A PAIR of box."""
    return pair_found(taken_small(box))


def is_pair(box, thing):
    """Whether thing is a PAIR of box."""
    return pair_shaped(taken_small(box), thing)


def near_zero(box, part, width):
    """A pair (across, up) at most width from a zero outside of the LOOP of box and part."""
    own, held, most = taken_small(box), box_of(taken_part(part)), taken_width(width)
    if not away(own, held):
        raise NoPaper()
    return zero_near(wholes(loop_of(own, held))[0], most)


def pair_near(box, across, up, deep):
    """A PAIR of box at across and up, or 1 / 2 ** deep beside; None if there is none."""
    own, a, b = taken_small(box), taken_fraction(across), taken_from(up, 0)
    return near_by(own, a, b, taken_number(deep, 0, MOST_DEEP))


def growth(four):
    """The square of the size of what four grows by in each beat."""
    return size_of(taken_four(four)[2:])


def pair_loop(box, four):
    """The LOOP of box and of the spring and the mass of four."""
    own = taken_small(box)
    return loop_of(own, other_of(taken_pair(four, own)))


def lacks(four, state, last, now):
    """The ROW by which now is not what four tells of the two ahead of it, all 0 if it is."""
    b = four[3]
    if b == ZERO:
        return plus_rows(now, times_row(last, negated(four[2])))
    twice = plus(four[2], four[2])
    out = plus_rows(now, times_row(last, negated(twice)))
    return plus_rows(out, times_row(state, size_of(four[2:])))


def first_state(machine, four, many):
    """The many numbers of all CELLS, not all 0, from which beats go on as four tells."""
    columns = []
    for unit in units_of(many):
        last, now = states_between(machine, unit, 2)
        columns.append(lacks(four, unit, unit, last) if four[3] == ZERO else lacks(four, unit, last, now))
    grid = [wholes(tuple([own[k] for own in columns] + [ZERO]))[0] for k in range(many)]
    # The first number is 1: with a 0 there all would be 0, for CELLS that grow
    # by the same part in each beat are all made of their first one.
    tops, bottom = whole_solved(grid + [[1] + [0] * (many - 1) + [1]])
    return fractions(tops, bottom)


def pair_run(box, four, beats):
    """A RUN of four, a PAIR of box, for so many beats."""
    own = taken_small(box)
    told, many = taken_pair(four, own), taken_number(beats, 0, MOST_BEATS)
    other = other_of(told)
    machine = machine_of_both(own, other)
    start = first_state(machine, told, cells_of(own) + cells_of(other))
    rows = [start] + states_between(machine, start, many)
    return tuple([(row[:cells_of(own)], row[cells_of(own):]) for row in rows])


def state_shaped(thing, many, others):
    """Whether thing is a pair of CELLS, so many of each."""
    if not isinstance(thing, tuple) or len(thing) != 2:
        return False
    return is_row_of(thing[0], many) and is_row_of(thing[1], others)


def is_pair_run(box, four, thing):
    """Whether thing is a RUN of four, a PAIR of box, for some beats."""
    own = taken_small(box)
    told = taken_pair(four, own)
    other = other_of(told)
    if not isinstance(thing, tuple) or not thing:
        return False
    if not all([state_shaped(state, cells_of(own), cells_of(other)) for state in thing]):
        return False
    rows = [cells + beside for cells, beside in thing]
    if all([number == ZERO for number in rows[0]]):
        return False
    if states_between(machine_of_both(own, other), rows[0], len(rows) - 1) != rows[1:]:
        return False
    ahead = 1 if told[3] == ZERO else 2
    return all([number == ZERO for k in range(ahead, len(rows))
                for number in lacks(told, rows[k - ahead], rows[k - 1], rows[k])])


def row_of_pair(box, four, bound):
    """Pushes from REST whose WORK is below bound times -1."""
    own = taken_small(box)
    told, most = taken_pair(four, own), taken_from(bound, 0)
    other = other_of(told)
    machine = machine_of_both(own, other)
    now = rest_of(own) + rest_of(other)
    pushes = []
    for outer in (ONE,) + (ZERO,) * (LONGEST - 1):
        beats, now = rolled(machine, now, (outer,))
        push, answer = beats[0]
        pushes.append(push)
        most = plus(most, mult(push, answer))
        if most[0] < 0:
            return tuple(pushes)
    raise TooMany()


def states_shaped(thing):
    """Whether thing is a tuple of pairs of ROWS."""
    if not isinstance(thing, tuple):
        return False
    return all([isinstance(own, tuple) and len(own) == 2 and is_row(own[0]) and is_row(own[1]) for own in thing])


def passes(rows, bound):
    """The number of the first of rows in which some FRACTION, without its sign, is above bound."""
    states, most = taken(rows, 4, states_shaped), taken_from(bound, 0)
    for k, (cells, beside) in enumerate(states):
        if any([below(most, (abs(top), bottom)) for top, bottom in cells + beside]):
            return k
    return None


def pair_for_times(factor, four):
    """four with its spring and its mass divided by factor."""
    by, told = taken_above(factor), taken_four(four)
    return over(told[0], by), over(told[1], by), told[2], told[3]
