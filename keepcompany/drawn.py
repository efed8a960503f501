"""What pushes can draw out of the CELLS of a KEEPER, and what brings CELLS there."""

from keepcompany.checks import is_row_of, taken_number, taken_table_of
from keepcompany.errors import CanNot
from keepcompany.grids import first_fall, solution
from keepcompany.ratios import ZERO, dot, minus, mult, negated, times_row
from keepcompany.rims import curve_of, keeps
from keepcompany.rolls import units_of
from keepcompany.shapes import cells_of, moved, rest_of, taken_cells, taken_small
from keepcompany.stores import half_sum
from keepcompany.works import table_up_to

MOST_DRAWS = 8


def refuse_giver(box):
    if not keeps(box):
        raise CanNot()


def taken_k(value):
    return taken_number(value, 0, MOST_DRAWS)


def left_answers(box, cells, k):
    """The first k answers from cells to pushes of 0."""
    return moved(box, cells, (ZERO,) * k)[0]


def best_row(box, cells, k):
    """The k pushes from cells whose WORK is the least.

    It is so where the EVEN TABLE takes them to what is left to answer, times -1.
    """
    return times_row(solution(table_up_to(box, k), left_answers(box, cells, k)), (-1, 1))


def most_out(box, cells, k):
    """The greatest WORK, times -1, of k pushes from cells."""
    return mult((-1, 2), dot(best_row(box, cells, k), left_answers(box, cells, k)))


def taken_for_draws(box, cells, k):
    """box, cells and k, as they are in most of these functions; CanNot for a GIVER."""
    own = taken_small(box)
    start, many = taken_cells(cells, own), taken_k(k)
    refuse_giver(own)
    return own, start, many


def most_drawn(box, cells, k):
    """The greatest WORK, times -1, of a row of k pushes from cells."""
    own, start, many = taken_for_draws(box, cells, k)
    return most_out(own, start, many)


def drawing_row(box, cells, k):
    """k pushes from cells that bring out so much."""
    own, start, many = taken_for_draws(box, cells, k)
    return best_row(own, start, many)


def is_drawing_row(box, cells, k, thing):
    """Whether thing is a ROW of k such pushes."""
    own, start, many = taken_for_draws(box, cells, k)
    if not is_row_of(thing, many):
        return False
    work = dot(thing, moved(own, start, thing)[0])
    return negated(work) == most_out(own, start, many)


def rises(box, cells, k):
    """The tuple of most_drawn for 1, 2, .., k."""
    own, start, many = taken_for_draws(box, cells, k)
    return tuple([most_out(own, start, own_k + 1) for own_k in range(many)])


def table_drawn(box, k):
    """The TABLE half whose sum over CELLS is what k pushes bring out of them."""
    even = table_up_to(box, k)
    answers = [left_answers(box, unit, k) for unit in units_of(cells_of(box))]
    rows = [solution(even, own) for own in answers]
    return tuple([tuple([dot(row, own) for own in answers]) for row in rows])


def drawn_table(box, k):
    """The TABLE half whose sum over CELLS is most_drawn of them."""
    own, many = taken_small(box), taken_k(k)
    refuse_giver(own)
    return table_drawn(own, many)


def least_row(box, cells, k):
    """The k pushes from REST to cells with the least WORK; None if none come there.

    It is so where the EVEN TABLE takes them to what the CELLS weigh, each by
    an amount that is looked for with them.
    """
    even = table_up_to(box, k)
    behind = [moved(box, rest_of(box), unit)[1] for unit in units_of(k)]
    many = cells_of(box)
    rows = [even[i] + behind[i] for i in range(k)]
    rows += [tuple([own[j] for own in behind]) + (ZERO,) * many for j in range(many)]
    found = solution(tuple(rows), (ZERO,) * k + cells)
    return None if found is None else found[:k]


def work_needed(box, cells, k):
    """The WORK of least_row; None if there is none."""
    row = least_row(box, cells, k)
    return None if row is None else half_sum(table_up_to(box, k), row)


def need(box, cells, k):
    """The least WORK of a row of k pushes from REST to cells; None if there is none."""
    own, end, many = taken_for_draws(box, cells, k)
    return work_needed(own, end, many)


def needing_row(box, cells, k):
    """Such a row with this WORK; None if there is none."""
    own, end, many = taken_for_draws(box, cells, k)
    return least_row(own, end, many)


def come_to(box, cells, k):
    """A row of k pushes from REST to cells; None if there is none."""
    own, end, many = taken_for_draws(box, cells, k)
    return least_row(own, end, many)


def between(box, table, cells, k):
    """The triple of most_drawn, half the sum of table over cells, and need."""
    own = taken_small(box)
    kept = taken_table_of(table, cells_of(own))
    start, many = taken_cells(cells, own), taken_k(k)
    refuse_giver(own)
    return most_out(own, start, many), half_sum(kept, start), work_needed(own, start, many)


def never_more(box, table, k):
    """Whether table less drawn_table, place by place, is never below 0."""
    own = taken_small(box)
    kept, many = taken_table_of(table, cells_of(own)), taken_k(k)
    refuse_giver(own)
    less = table_drawn(own, many)
    return first_fall(tuple([tuple([minus(x, y) for x, y in zip(row, other)])
                             for row, other in zip(kept, less)])) is None


def drawn_all(box, cells):
    """As many pushes as cells has, which bring the CELLS from cells to REST."""
    own = taken_small(box)
    start = taken_cells(cells, own)
    if curve_of(own) or not keeps(own):
        raise CanNot()
    # Each push is just what keeps inner at 0.
    return tuple([dot(own[1][1 + k:], start) for k in range(cells_of(own))])
