"""WORK: what pushes put into a BOX, and rows of pushes that bring more out."""

from keepcompany.checks import is_row, taken_number, taken_row
from keepcompany.errors import CanNot, NoPaper, Unfit
from keepcompany.grids import below_row, first_fall
from keepcompany.ratios import ZERO, dot, mult, plus
from keepcompany.shapes import (answers_of, first_echoes, moved, taken_cells, taken_heard,
                                taken_small)

MOST_PUSHES = 12


def work_of(box, cells, pushes):
    """The WORK of pushes from cells: each push times its answer, added up."""
    own = taken_small(box)
    start, row = taken_cells(cells, own), taken_row(pushes)
    return dot(row, moved(own, start, row)[0])


def work_sums(box, cells, pushes):
    """The tuple of the WORK of the first push, the first two, .., all of them."""
    own = taken_small(box)
    start, row = taken_cells(cells, own), taken_row(pushes)
    out = []
    work = ZERO
    for push, answer in zip(row, moved(own, start, row)[0]):
        work = plus(work, mult(push, answer))
        out.append(work)
    return tuple(out)


def table_of_echoes(heard):
    """The EVEN TABLE of heard, unchecked."""
    row = tuple([plus(heard[0], heard[0])] + list(heard[1:])) if heard else ()
    places = range(len(row))
    return tuple([tuple([row[abs(i - j)] for j in places]) for i in places])


def table_up_to(box, k):
    """The EVEN TABLE of the ECHOES of box of k; () for 0."""
    return table_of_echoes(first_echoes(box, k)) if k > 0 else ()


def even_table(heard):
    """The EVEN TABLE of heard as ECHOES."""
    return table_of_echoes(taken_heard(heard))


def work_by_table(heard, pushes):
    """The WORK of pushes from REST of each BOX whose first ECHOES are heard."""
    told, row = taken_heard(heard), taken_row(pushes)
    if len(row) > len(told):
        raise Unfit()
    answers = [dot(row[:k + 1], told[:k + 1][::-1]) for k in range(len(row))]
    return dot(row, tuple(answers))


def gives_within(box, k):
    """Whether box has a GIVING ROW of at most k pushes."""
    own = taken_small(box)
    return first_fall(table_up_to(own, taken_number(k, 0, MOST_PUSHES))) is not None


def giving_row(box, k):
    """A GIVING ROW of at most k pushes."""
    own = taken_small(box)
    found = below_row(table_up_to(own, taken_number(k, 0, MOST_PUSHES)))
    if found is None:
        raise NoPaper()
    return found


def is_giving_row(box, thing):
    """Whether thing is a GIVING ROW of box, of whatever length."""
    own = taken_small(box)
    return is_row(thing) and dot(thing, answers_of(own, thing))[0] < 0


def first_gift(box, bound):
    """The least length of a GIVING ROW; None if that is above bound, or none is."""
    own = taken_small(box)
    fall = first_fall(table_up_to(own, taken_number(bound, 0, MOST_PUSHES)))
    return None if fall is None else fall[0] + 1


def turned_row(box, pushes):
    """The answers of box from REST to pushes: what the turned BOX is pushed by."""
    own = taken_small(box)
    row = taken_row(pushes)
    if own[0][0] == ZERO:
        raise CanNot()
    return answers_of(own, row)


def work_of_sum(box, other, pushes):
    """The pair of the WORKS of pushes from REST, of box and of other."""
    own, second, row = taken_small(box), taken_small(other), taken_row(pushes)
    return dot(row, answers_of(own, row)), dot(row, answers_of(second, row))
