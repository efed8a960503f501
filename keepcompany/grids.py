"""Rows of whole numbers, and TABLES of FRACTIONS by way of them: elimination.

Each step divides without rest by the pivot of the step ahead, so that the
numbers stay as short as the determinants that they are.
"""

from keepcompany.ratios import fractions, table_sum, wholes


def whole_solved(grid):
    """The pair (tops, bottom): tops[j] / bottom are numbers x that solve grid.

    Each row of grid is one equation: what stands before x, and at its end what
    it comes to. None if nothing solves it.
    """
    rows = [list(own) for own in grid]
    many = len(rows[0]) - 1
    last = 1
    places = []
    for column in range(many):
        used = len(places)
        pick = used
        while pick < len(rows) and rows[pick][column] == 0:
            pick += 1
        if pick == len(rows):
            continue
        rows[used], rows[pick] = rows[pick], rows[used]
        rows = swept(rows, used, column, last)
        last = rows[used][column]
        places.append(column)
    if any([own[many] != 0 for own in rows[len(places):]]):
        return None
    tops = [0] * many
    for k, column in enumerate(places):
        tops[column] = rows[k][many]
    return tops, last


def swept(rows, used, column, last):
    """rows with column made 0 in each but the one at used, times the pivot over last."""
    chosen = rows[used]
    pivot = chosen[column]
    out = []
    for k, own in enumerate(rows):
        if k == used:
            out.append(own)
        else:
            by = own[column]
            out.append([(pivot * a - by * b) // last for a, b in zip(own, chosen)])
    return out


def determinant(grid):
    """The determinant of as many rows of whole numbers as each of them has."""
    rows = [list(own) for own in grid]
    last = 1
    for column in range(len(rows)):
        pick = column
        while pick < len(rows) and rows[pick][column] == 0:
            pick += 1
        if pick == len(rows):
            return 0
        if pick > column:
            rows[column], rows[pick] = [-own for own in rows[pick]], rows[column]
        rows = swept(rows, column, column, last)
        last = rows[column][column]
    return last


def solution(table, row):
    """A ROW x with table times x being row; None if there is none."""
    if not table:
        return ()
    grid = [wholes(own + (end,))[0] for own, end in zip(table, row)]
    found = whole_solved(grid)
    if found is None:
        return None
    return fractions(found[0], found[1])


def first_fall(table):
    """Where the first TABLES of 1, 2, .. of table's ROWS begin not to be never below 0.

    None if they never do; else (place, partner, pivots, row): the last place
    of the first such one; pivots, places ahead whose TABLE is above 0; row,
    what is left of place's ROW when they are eliminated, times a number above
    0. It is below 0 at place itself, partner None, or not 0 at partner, a
    place ahead at which its own left ROW has 0.
    """
    rows = [wholes(own)[0] for own in table]
    last = 1
    pivots = []
    noughts = []
    for place in range(len(rows)):
        row = rows[place]
        if row[place] < 0:
            return place, None, pivots, row
        for partner in noughts:
            if row[partner] != 0:
                return place, partner, pivots, row
        if row[place] == 0:
            noughts.append(place)
            continue
        pivots.append(place)
        rows = rows[:place + 1] + freed(rows, place, last)
        last = row[place]
    return None


def freed(rows, place, last):
    """The rows behind place, made 0 there, times the pivot of place over last."""
    row = rows[place]
    pivot = row[place]
    return [[(pivot * a - own[place] * b) // last for a, b in zip(own, row)]
            for own in rows[place + 1:]]


def is_above(table):
    """Whether table is above 0."""
    rows = [wholes(own)[0] for own in table]
    last = 1
    for place in range(len(rows)):
        pivot = rows[place][place]
        if pivot <= 0:
            return False
        rows = rows[:place + 1] + freed(rows, place, last)
        last = pivot
    return True


def below_row(table):
    """A ROW over which the sum of table is below 0; None if there is none."""
    fall = first_fall(table)
    if fall is None:
        return None
    place, partner, pivots, left = fall
    row = [0] * len(table)
    row[place] = 1
    if partner is not None:
        size = left[place] // (2 * abs(left[partner])) + 1
        row[partner] = -size if left[partner] > 0 else size
    return rounded_below(table, completed(table, row, pivots))


def completed(table, row, pivots):
    """A multiple of row, 0 at pivots, with what makes table's sum least there."""
    if not pivots:
        return row
    grid = []
    for i in pivots:
        own = wholes(table[i])[0]
        end = sum([a * b for a, b in zip(own, row)])
        grid.append([own[j] for j in pivots] + [-end])
    tops, bottom = whole_solved(grid)
    out = [own * bottom for own in row]
    for k, i in enumerate(pivots):
        out[i] = tops[k]
    return out


def rounded_below(table, numbers):
    """A ROW near numbers, as short as it will do, with table's sum below 0."""
    size = max([abs(own) for own in numbers]).bit_length()
    keep = 1
    while keep < size:
        drop = size - keep
        half = 1 << (drop - 1)
        short = fractions([(own + half) >> drop for own in numbers], 1)
        if table_sum(table, short)[0] < 0:
            return short
        keep *= 2
    return fractions(numbers, 1)
