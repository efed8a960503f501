"""What the tests share: FRACTIONS to and fro, oracles of their own, boxes at random."""

from fractions import Fraction
from itertools import combinations

O, ONE, TWO, LESS, HALF = (0, 1), (1, 1), (2, 1), (-1, 1), (1, 2)
BIG = 10 ** 40


def pair(x):
    x = Fraction(x)
    return (x.numerator, x.denominator)


def row(*xs):
    return tuple(pair(x) for x in xs)


def box(tops, bottoms):
    return (row(*tops), row(*bottoms))


def table(rows):
    return tuple(row(*own) for own in rows)


def value(f):
    return Fraction(f[0], f[1])


def values(xs):
    return [value(own) for own in xs]


def lists(x):
    """x with lists for its tuples, at any depth."""
    return [lists(own) for own in x] if isinstance(x, tuple) else x


def poly(factors, lead=1):
    """The POLY of factors, each the numbers of a POLY, multiplied, and lead."""
    out = [Fraction(lead)]
    for factor in factors:
        wide = [Fraction(0)] * (len(out) + len(factor) - 1)
        for i, own in enumerate(out):
            for j, other in enumerate(factor):
                wide[i + j] += own * Fraction(other)
        out = wide
    return row(*out)


def determinant(rows):
    rows = [list(own) for own in rows]
    out = Fraction(1)
    for k in range(len(rows)):
        pick = next((i for i in range(k, len(rows)) if rows[i][k] != 0), None)
        if pick is None:
            return Fraction(0)
        if pick != k:
            rows[k], rows[pick] = rows[pick], rows[k]
            out = -out
        out *= rows[k][k]
        for i in range(k + 1, len(rows)):
            by = rows[i][k] / rows[k][k]
            rows[i] = [a - by * b for a, b in zip(rows[i], rows[k])]
    return out


def never_below_by_minors(rows):
    """Whether all principal minors of a symmetric table of Fractions are from 0."""
    many = len(rows)
    return all(determinant([[rows[i][j] for j in chosen] for i in chosen]) >= 0
               for size in range(1, many + 1) for chosen in combinations(range(many), size))


def table_values(own):
    return [values(line) for line in own]


def sum_over(own, xs):
    rows, numbers = table_values(own), values(xs)
    return sum(rows[i][j] * numbers[i] * numbers[j]
               for i in range(len(numbers)) for j in range(len(numbers)))


def answers_by_hand(own, pushes, cells=None):
    """Answers by the differences that a BOX stands for, from CELLS."""
    tops, bottoms = values(own[0]), values(own[1])
    kept = list(values(cells)) if cells is not None else [Fraction(0)] * (len(tops) - 1)
    out = []
    for push in values(pushes):
        inner = push - sum(b * c for b, c in zip(bottoms[1:], kept))
        kept = [inner] + kept
        out.append(sum(t * c for t, c in zip(tops, kept)))
        kept = kept[:len(tops) - 1]
    return out, kept


def work_by_hand(own, pushes, cells=None):
    answers, _ = answers_by_hand(own, pushes, cells)
    return sum((a * b for a, b in zip(values(pushes), answers)), Fraction(0))


def gap_by_hand(own, stored):
    tops, bottoms, kept = values(own[0]), values(own[1]), table_values(stored)
    many = len(tops)

    def at(i, j):
        return kept[i][j] if 0 <= i < many - 1 and 0 <= j < many - 1 else Fraction(0)

    return [[bottoms[i] * tops[j] + tops[i] * bottoms[j] - at(i, j) + at(i - 1, j - 1)
             for j in range(many)] for i in range(many)]


def is_store_by_hand(own, stored):
    return (never_below_by_minors(table_values(stored))
            and never_below_by_minors(gap_by_hand(own, stored)))


def any_fraction(chance, top=3, bottom=2):
    return Fraction(chance.randint(-top, top), chance.randint(1, bottom))


def any_box(chance, cells):
    """A BOX, SMALL or not."""
    while True:
        tops = [any_fraction(chance) for _ in range(cells + 1)]
        if any(tops):
            return box(tops, [1] + [any_fraction(chance) for _ in range(cells)])


def small_pairs():
    """Words of one and of two small numbers, a blank between."""
    words = ("-1", "0", "1", "1/2", "2")
    return list(words) + [f"{one} {other}" for one in words for other in words]
