"""POLYS and TABLES: sums, divisions, zeros, what is never below 0."""

from keepcompany.checks import taken_above, taken_fraction, taken_poly, taken_row_of, taken_table
from keepcompany.errors import CanNot, NoPaper, Unfit
from keepcompany.grids import below_row, first_fall, solution
from keepcompany.polys import added, multiplied, parted, parts_by_many, shared_part, valued, zeros_once
from keepcompany.ratios import below, wholes
from keepcompany.spans import spans_of
from keepcompany.wholepolys import count_between, outside_count


def poly_sum(p, q):
    """p and q added up."""
    one, other = taken_poly(p), taken_poly(q)
    return added(one, other)


def poly_times(p, q):
    """p and q multiplied."""
    one, other = taken_poly(p), taken_poly(q)
    return multiplied(one, other)


def poly_parted(p, q):
    """The pair (times, rest): p is times q, and rest, shorter than q."""
    one, other = taken_poly(p), taken_poly(q)
    if not other:
        raise CanNot()
    return parted(one, other)


def value_at(p, x):
    """What p comes to at x."""
    one, place = taken_poly(p), taken_fraction(x)
    return valued(one, place)


def common_part(p, q):
    """The longest POLY with last number 1 that divides both; () of two ()."""
    one, other = taken_poly(p), taken_poly(q)
    return shared_part(one, other)


def each_once(p):
    """The POLY with last number 1 that has each zero of p once."""
    return zeros_once(taken_poly(p))


def by_multiplicity(p):
    """The tuple of pairs (POLY, many): the zeros that p has just many times."""
    return tuple(parts_by_many(taken_poly(p)))


def stretch(low, high):
    """The pair of low and high, FRACTIONS, low below high; else Unfit."""
    one, other = taken_fraction(low), taken_fraction(high)
    if not below(one, other):
        raise Unfit()
    return one, other


def roots_between(p, low, high):
    """How many unlike roots of p lie strictly between low and high."""
    one = taken_poly(p)
    start, end = stretch(low, high)
    if not one:
        raise CanNot()
    return count_between(wholes(one)[0], start, end)


def root_spans(p, low, high, width):
    """The tuple of pairs (l, r), one for each root strictly between low and high."""
    one = taken_poly(p)
    start, end = stretch(low, high)
    most = taken_above(width)
    if not one:
        raise CanNot()
    return spans_of(wholes(one)[0], start, end, most)


def never_below(table):
    """Whether table is never below 0."""
    return first_fall(taken_table(table)) is None


def row_below(table):
    """A ROW over which the sum of table is below 0."""
    found = below_row(taken_table(table))
    if found is None:
        raise NoPaper()
    return found


def solved(table, row):
    """A ROW x that table takes to row; None if there is none."""
    kept = taken_table(table)
    return solution(kept, taken_row_of(row, len(kept)))


def zeros_outside(p):
    """OUTSIDE of p: how many zeros of a size above 1 it has."""
    one = taken_poly(p)
    if not one:
        raise CanNot()
    return outside_count(wholes(one)[0])
