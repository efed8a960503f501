"""STORES: tables of fractions that tell how far the cells of a BOX can go."""

from keepcompany.checks import (is_fraction, is_row_of, is_table_of, taken_between, taken_from,
                                taken_row, taken_row_of, taken_table, taken_table_of)
from keepcompany.errors import CanNot, NoPaper, Unfit
from keepcompany.grids import first_fall, is_above, solution
from keepcompany.polys import multiplied
from keepcompany.ratios import (ONE, ZERO, added_up, minus, mult, over, plus, plus_rows, table_sum,
                                times_row)
from keepcompany.rims import (curve_of, dips, keeps, parts_of, poly_of_sums, slants_of, stays_above,
                              sums_of_poly)
from keepcompany.rolls import units_of
from keepcompany.shapes import cells_of, taken_small
from keepcompany.squares import squares_of

MOST_SUMS = 6


def taken_sums(value):
    """value, a ROW of 1 to 6 FRACTIONS; else Unfit."""
    kept = taken_row(value)
    if not 1 <= len(kept) <= MOST_SUMS:
        raise Unfit()
    return kept


def squares_for(sums):
    """SQUARES for sums."""
    own = taken_sums(sums)
    p = poly_of_sums(own)
    if not p or not stays_above(p):
        raise CanNot()
    return squares_of(own)


def table_of_squares(squares, many):
    """The TABLE of many that weight row[i] row[j] comes to, all pairs added up."""
    rows = [times_row(row, weight) for weight, row in squares]
    return tuple([tuple([added_up([mult(own[i], pair[1][j]) for own, pair in zip(rows, squares)])
                         for j in range(many)]) for i in range(many)])


def slant_sums(table):
    """The slant sums of table."""
    many = len(table)
    return tuple([added_up([table[i + k][i] for i in range(many - k)]) for k in range(many)])


def are_squares(sums, thing):
    """Whether thing is SQUARES for sums."""
    own = taken_sums(sums)
    if not isinstance(thing, tuple):
        return False
    for pair in thing:
        if not isinstance(pair, tuple) or len(pair) != 2 or not is_fraction(pair[0]):
            return False
        if pair[0][0] <= 0 or not is_row_of(pair[1], len(own)):
            return False
    return slant_sums(table_of_squares(thing, len(own))) == own


def rim_row(parts):
    """The ROW in powers of z whose size on the rim, squared, is all of parts but s.

    It is so but for a half for each of x and y.
    """
    (x, y), root, _ = parts
    sums = sums_of_poly(root)
    last = len(sums) - 1
    out = tuple([sums[abs(i - last)] for i in range(2 * last + 1)])
    if x == 1:
        out = multiplied(out, (ONE, (-1, 1)))
    if y == 1:
        out = multiplied(out, (ONE, ONE))
    return out


def square_of(box, own):
    """A TABLE never below 0 with the SLANTS of box; own is its CURVE."""
    many = cells_of(box) + 1
    if not own:
        return ((ZERO,) * many,) * many
    parts = parts_of(own)
    factor = rim_row(parts)
    halves = (1, 1 << sum(parts[0]))
    squares = []
    for weight, row in squares_of(sums_of_poly(parts[2])):
        wide = multiplied(row, factor)
        squares.append((mult(weight, halves), wide + (ZERO,) * (many - len(wide))))
    return table_of_squares(squares, many)


def square_gap(box):
    """A TABLE never below 0 with the SLANTS of box as its slant sums."""
    own = taken_small(box)
    shape = curve_of(own)
    if dips(shape):
        raise CanNot()
    return square_of(own, shape)


def at_or_nought(table, i, j):
    """table[i][j], 0 where table has none."""
    if 0 <= i < len(table) and 0 <= j < len(table):
        return table[i][j]
    return ZERO


def both_ways(box, i, j):
    """What box itself has at places i, j of each GAP."""
    tops, bottoms = box
    return plus(mult(bottoms[i], tops[j]), mult(tops[i], bottoms[j]))


def gap_between(box, table):
    """The GAP of box and table."""
    places = range(cells_of(box) + 1)
    return tuple([tuple([plus(minus(both_ways(box, i, j), at_or_nought(table, i, j)),
                              at_or_nought(table, i - 1, j - 1)) for j in places]) for i in places])


def gap_of(box, table):
    """The GAP of box and table."""
    own = taken_small(box)
    return gap_between(own, taken_table_of(table, cells_of(own)))


def table_by(box, square):
    """The TABLE whose GAP with box is square, whose slant sums are the SLANTS."""
    many = cells_of(box)
    rows = []
    for i in range(many):
        row = []
        for j in range(many):
            ahead = rows[i - 1][j - 1] if i > 0 and j > 0 else ZERO
            row.append(plus(ahead, minus(both_ways(box, i, j), square[i][j])))
        rows.append(tuple(row))
    return tuple(rows)


def store_by(box, square):
    """The TABLE whose GAP with box is square."""
    own = taken_small(box)
    table = taken_table_of(square, cells_of(own) + 1)
    if slant_sums(table) != slants_of(own):
        raise CanNot()
    return table_by(own, table)


def store_found(box):
    """A STORE of box, a KEEPER."""
    return table_by(box, square_of(box, curve_of(box)))


def store(box):
    """A STORE of box."""
    own = taken_small(box)
    if not keeps(own):
        raise NoPaper()
    return store_found(own)


def store_shaped(box, thing):
    """Whether thing is a STORE of the SMALL BOX box."""
    if not is_table_of(thing, cells_of(box)):
        return False
    return first_fall(thing) is None and first_fall(gap_between(box, thing)) is None


def is_store(box, thing):
    """Whether thing is a STORE of box."""
    return store_shaped(taken_small(box), thing)


def half_sum(table, row):
    """Half the sum of table over row."""
    return mult((1, 2), table_sum(table, row))


def worth(table, cells):
    """Half the sum of table over cells."""
    own = taken_table(table)
    return half_sum(own, taken_row_of(cells, len(own)))


def stores_mixed(table, other, far):
    """table times 1 - far and other times far, added up."""
    own = taken_table(table)
    second, part = taken_table_of(other, len(own)), taken_between(far, 0, 1)
    less = minus(ONE, part)
    return tuple([plus_rows(times_row(row, less), times_row(late, part))
                  for row, late in zip(own, second)])


def store_of_turned(box, table):
    """table divided by the square of tops[0]: a STORE of the turned BOX of one of box."""
    own = taken_small(box)
    kept = taken_table_of(table, cells_of(own))
    first = own[0][0]
    if first == ZERO:
        raise CanNot()
    by = over(ONE, mult(first, first))
    return tuple([times_row(row, by) for row in kept])


def bounds_of_cells(table, most):
    """The ROW of what the square of each cell is at most while half the sum is most."""
    if not is_above(table):
        raise CanNot()
    twice = plus(most, most)
    return tuple([mult(twice, solution(table, unit)[place])
                  for place, unit in enumerate(units_of(len(table)))])


def cell_bounds(table, most):
    """What the square of each cell is at most while half the sum of table is most."""
    own, half = taken_table(table), taken_from(most, 0)
    return bounds_of_cells(own, half)


def loss_free_store(box):
    """The one STORE of box, which is LOSS-FREE."""
    own = taken_small(box)
    if curve_of(own) or not keeps(own):
        raise CanNot()
    return store_found(own)
