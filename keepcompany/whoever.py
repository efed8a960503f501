"""Whoever joins: SCRIPTS of PARTS, and what the CELLS of a BOX come to by them."""

from keepcompany.checks import (is_number, taken, taken_from, taken_number, taken_row, taken_row_of, taken_table,
                                taken_table_of)
from keepcompany.errors import CanNot, Stuck, Unfit
from keepcompany.joints import box_of, part_shaped, stuck
from keepcompany.ratios import ONE, ZERO, below, mult, negated, over, plus, plus_rows, times_row
from keepcompany.rolls import held_row, kept_rows, machine_of, machine_of_both, rolled
from keepcompany.shapes import cells_of, moved, rest_of, stepped, taken_cells, taken_small
from keepcompany.stores import bounds_of_cells, half_sum

MOST_HELD = 40


def script_shaped(thing):
    """Whether thing is a SCRIPT."""
    if not isinstance(thing, tuple):
        return False
    for own in thing:
        if not isinstance(own, tuple) or len(own) != 2:
            return False
        beats, part = own
        if not is_number(beats) or beats < 1 or not part_shaped(part):
            return False
    return True


def scripts_shaped(thing):
    return isinstance(thing, tuple) and len(thing) > 0 and all([script_shaped(own) for own in thing])


def taken_script(value):
    return taken(value, 4, script_shaped)


def taken_amounts(value):
    """value, a ROW of FRACTIONS from 0; else Unfit."""
    kept = taken_row(value)
    if any([own[0] < 0 for own in kept]):
        raise Unfit()
    return kept


def taken_with_table(box, table):
    """The pair of box, a SMALL BOX, and table, a TABLE for its CELLS; else Unfit."""
    own = taken_small(box)
    return own, taken_table_of(table, cells_of(own))


def refuse_stuck_parts(box, script):
    for _, part in script:
        if stuck(box, box_of(part)):
            raise Stuck()


def states_along(box, cells, script):
    """The pair of the list of the pairs (push, answer) and that of the CELLS at first and behind each."""
    pairs = []
    states = [cells]
    for beats, part in script:
        held = box_of(part)
        told, makes = machine_of_both(box, held)
        seen = rolled((told + makes[:len(cells)], makes), states[-1] + rest_of(held), (ZERO,) * beats)[0]
        pairs.extend([own[:2] for own in seen])
        states.extend([own[2:] for own in seen])
    return pairs, states


def is_script(thing):
    """Whether thing is a SCRIPT."""
    return script_shaped(thing)


def script_run(box, cells, script):
    """The pair of box's pairs (push, answer), beat by beat, and its CELLS at the end."""
    own = taken_small(box)
    start, told = taken_cells(cells, own), taken_script(script)
    refuse_stuck_parts(own, told)
    pairs, states = states_along(own, start, told)
    return tuple(pairs), states[-1]


def worths_along(box, table, cells, script):
    """The ROW of the worths ahead of each beat and at the end, for arguments as handed in."""
    own, kept = taken_with_table(box, table)
    start, told = taken_cells(cells, own), taken_script(script)
    refuse_stuck_parts(own, told)
    return tuple([half_sum(kept, now) for now in states_along(own, start, told)[1]])


def script_worths(box, table, cells, script):
    """The ROW of the worths by table ahead of each beat of script, and at the end."""
    return worths_along(box, table, cells, script)


def stays(box, table, cells, script):
    """Whether none of these worths is above the first one."""
    told = worths_along(box, table, cells, script)
    return not any([below(told[0], own) for own in told])


def dampers_run(box, cells, amounts):
    """As script_run, in each beat JOINED to a damper of the next one of amounts."""
    own = taken_small(box)
    now, told = taken_cells(cells, own), taken_amounts(amounts)
    leads = [plus(ONE, mult(own[0][0], amount)) for amount in told]
    if any([lead == ZERO for lead in leads]):
        raise Stuck()
    pairs = []
    for amount, lead in zip(told, leads):
        held = stepped(own, now, ZERO)[0]
        push = negated(over(mult(amount, held), lead))
        answer, now = stepped(own, now, push)
        pairs.append((push, answer))
    return tuple(pairs), now


def put_in(box, cells, pushes):
    """The greatest of 0 and of the WORK of each beginning of pushes."""
    own = taken_small(box)
    start, row = taken_cells(cells, own), taken_row(pushes)
    work = most = ZERO
    for push, answer in zip(row, moved(own, start, row)[0]):
        work = plus(work, mult(push, answer))
        most = work if below(most, work) else most
    return most


def bound_for(table, cells, most):
    """For each cell what its square passes in no CELLS of the worth of cells and most more."""
    own = taken_table(table)
    start = taken_row_of(cells, len(own))
    return bounds_of_cells(own, plus(half_sum(own, start), taken_from(most, 0)))


def is_within(box, table, cells, pushes, most):
    """Whether behind each of pushes each cell's square is at most that of bound_for."""
    own, kept = taken_with_table(box, table)
    now, row, more = taken_cells(cells, own), taken_row(pushes), taken_from(most, 0)
    bounds = bounds_of_cells(kept, plus(half_sum(kept, now), more))
    makes = machine_of(own)[1]
    return not any([below(bound, mult(cell, cell)) for state in rolled((makes, makes), now, row)[0]
                    for bound, cell in zip(bounds, state)])


def worst_exchange(box, table, cells, scripts):
    """The place of the first of scripts at whose end the worth is the greatest."""
    own, kept = taken_with_table(box, table)
    start, told = taken_cells(cells, own), taken(scripts, 5, scripts_shaped)
    for script in told:
        refuse_stuck_parts(own, script)
    ends = [half_sum(kept, states_along(own, start, script)[1][-1]) for script in told]
    worst = 0
    for k, end in enumerate(ends):
        if below(ends[worst], end):
            worst = k
    return worst


def held_still(box, cells, k):
    """The ROW of k pushes to which all answers are 0."""
    own = taken_small(box)
    now, many = taken_cells(cells, own), taken_number(k, 0, MOST_HELD)
    first = own[0][0]
    if first == ZERO:
        raise CanNot()
    # Each push is what takes away the answer that the CELLS alone would give.
    push = (ZERO,) + times_row(held_row(own), over((-1, 1), first))
    inner = plus_rows(push, (ZERO,) + times_row(own[1][1:], (-1, 1)))
    told = rolled(([push], kept_rows(inner, 1, len(now))), now, (ZERO,) * many)[0]
    return tuple([row[0] for row in told])
