"""Point [5]: POLYS and TABLES."""

import random
import unittest
from fractions import Fraction

from keepcompany.errors import CanNot, NoPaper
from keepcompany.numbers import (by_multiplicity, common_part, each_once, never_below, poly_parted,
                                 poly_sum, poly_times, root_spans, roots_between, row_below, solved,
                                 value_at, zeros_outside)

from helpers import (BIG, HALF, LESS, O, ONE, TWO, any_fraction, never_below_by_minors, pair, poly, row,
                     sum_over, table, table_values, value, values)


def any_poly(chance, most):
    out = [any_fraction(chance) for _ in range(chance.randint(0, most))]
    while out and out[-1] == 0:
        out.pop()
    return row(*out)


def any_table(chance, many, rank):
    """A TABLE: squares added up, or, of rank None, what comes."""
    out = [[Fraction(0)] * many for _ in range(many)]
    if rank is None:
        for i in range(many):
            for j in range(i + 1):
                out[i][j] = out[j][i] = any_fraction(chance) + (chance.randint(0, 3) if i == j else 0)
        return table(out)
    for _ in range(rank):
        line = [any_fraction(chance) for _ in range(many)]
        out = [[out[i][j] + line[i] * line[j] for j in range(many)] for i in range(many)]
    return table(out)


# Each a factor, how many of its zeros are outside, and how many on the rim.
FACTORS = [((0, 1), 0, 0), ((-1, 1), 0, 1), ((1, 1), 0, 1), ((-2, 1), 1, 0), (("-1/2", 1), 0, 0),
           ((3, 1), 1, 0), ((1, 0, 1), 0, 2), ((1, "-6/5", 1), 0, 2), ((5, "-1/3", 1), 2, 0),
           (("1/5", "1/3", 1), 0, 0), ((1, "-5/2", 1), 1, 0), ((2, -2, 1), 2, 0), (("1/2", 0, 0, 0, 0, 1), 0, 0),
           ((2, 0, 0, 0, 0, 1), 5, 0), ((1, 1, 1), 0, 2), ((-1, 0, 0, 1), 0, 3)]


class SumTests(unittest.TestCase):

    def test_sums_products_and_values(self):
        chance = random.Random(21)
        for _ in range(100):
            p, q, x = any_poly(chance, 6), any_poly(chance, 6), any_fraction(chance, 9, 5)
            at = [sum((c * x ** k for k, c in enumerate(values(own))), Fraction(0)) for own in (p, q)]
            self.assertEqual(value(value_at(p, pair(x))), at[0])
            self.assertEqual(value(value_at(poly_sum(p, q), pair(x))), at[0] + at[1])
            self.assertEqual(value(value_at(poly_times(p, q), pair(x))), at[0] * at[1])
            for own in (poly_sum(p, q), poly_times(p, q)):
                self.assertTrue(own == () or own[-1] != O)
            if p and q:
                self.assertEqual(len(poly_times(p, q)), len(p) + len(q) - 1)
        self.assertEqual(poly_sum(row(1, 2), row(3, -2)), row(4))
        self.assertEqual((poly_sum(row(1), row(-1)), poly_times((), row(1)), poly_sum((), ())), ((), (), ()))
        self.assertEqual(value_at((), HALF), O)

    def test_divisions(self):
        chance = random.Random(22)
        for _ in range(100):
            p, q = any_poly(chance, 8), any_poly(chance, 4)
            if not q:
                with self.assertRaises(CanNot):
                    poly_parted(p, q)
                continue
            often, rest = poly_parted(p, q)
            self.assertLess(len(rest), len(q))
            self.assertEqual(poly_sum(poly_times(often, q), rest), p)
        self.assertEqual(poly_parted(row(1, 1), row(0, 0, 1)), ((), row(1, 1)))

    def test_common_divisors(self):
        chance = random.Random(23)
        for _ in range(60):
            shared = poly([chance.choice(FACTORS)[0] for _ in range(chance.randint(0, 2))])
            own = poly_times(shared, poly([(-7, 1), (chance.randint(1, 5), 0, 1)], "3/2"))
            other = poly_times(shared, poly([(-11, 1)], "-5/7"))
            self.assertEqual(common_part(own, other), shared)
            self.assertEqual(common_part(other, own), shared)
        self.assertEqual((common_part((), ()), common_part((), row(2, 4)), common_part(row(6), row(0, 3))),
                         ((), row("1/2", 1), row(1)))

    def test_multiplicities(self):
        self.assertEqual((by_multiplicity(()), by_multiplicity(row(-3)), each_once(()), each_once(row(-3))),
                         ((), (), (), row(1)))
        chance = random.Random(24)
        for _ in range(40):
            told = {}
            for factor in ((-2, 1), (3, 1), (1, 0, 1), ("-1/2", 1), (-2, 0, 1), (0, 1)):
                many = chance.choice((0, 0, 1, 1, 2, 3))
                told.setdefault(many, []).append(factor)
            p = poly([own for many in told for own in told[many] * many], chance.choice((1, "-7/3")))
            shown = tuple((poly(told[many]), many) for many in sorted(told) if many > 0)
            self.assertEqual(by_multiplicity(p), shown)
            self.assertEqual(each_once(p), poly([own for many in told if many for own in told[many]]))


class RootTests(unittest.TestCase):

    def check_spans(self, p, low, high, width, shown):
        """shown: the roots between, as functions that tell on which side x is."""
        spans = root_spans(p, low, high, width)
        self.assertEqual(len(spans), shown)
        self.assertEqual(roots_between(p, low, high), shown)
        for k, (l, r) in enumerate(spans):
            self.assertTrue(value(low) < value(l) <= value(r) < value(high))
            self.assertLessEqual(value(r) - value(l), value(width))
            if l == r:
                self.assertEqual(value_at(p, l), O)
            else:
                self.assertEqual(roots_between(p, l, r), 1)
                self.assertNotEqual(value_at(p, l), O)
                self.assertNotEqual(value_at(p, r), O)
            if k:
                self.assertLess(value(spans[k - 1][1]), value(l))
        return spans

    def test_rational_roots(self):
        chance = random.Random(25)
        for _ in range(80):
            roots = [any_fraction(chance, 5, 4) for _ in range(chance.randint(0, 5))]
            p = poly([(-own, 1) for own in roots] + [(1, 0, 1)] * chance.randint(0, 1), chance.choice((1, "-3/4")))
            low = any_fraction(chance, 6, 4)
            high = low + Fraction(chance.randint(1, 9), chance.randint(1, 3))
            inside = sorted({own for own in roots if low < own < high})
            width = chance.choice((10, 1, Fraction(1, 3), Fraction(1, 10 ** 6)))
            spans = self.check_spans(p, pair(low), pair(high), pair(width), len(inside))
            for (l, r), root in zip(spans, inside):
                self.assertTrue(value(l) < root < value(r) or value(l) == root == value(r))

    def test_other_roots(self):
        two = row(-2, 0, 1)
        for width in (TWO, ONE, (1, 10 ** 6), (1, 10 ** 30)):
            self.check_spans(two, (-3, 1), (3, 1), width, 2)
            self.check_spans(two, O, (3, 2), width, 1)
            self.check_spans(two, O, (7, 5), width, 0)
            self.check_spans(poly_times(two, two), (-2, 1), (2, 1), width, 2)
        near = poly([(-2, 0, 1), (Fraction(-2) - Fraction(1, BIG), 0, 1), ("-7/5", 1)])
        self.check_spans(near, O, TWO, ONE, 3)
        self.check_spans(near, (-2, 1), TWO, ONE, 5)

    def test_ends_are_not_counted(self):
        p = poly([(0, 1), (-1, 1), (1, 1), (-2, 1)])
        self.check_spans(p, LESS, ONE, ONE, 1)
        self.check_spans(p, O, ONE, ONE, 0)
        self.check_spans(p, O, TWO, (1, 10 ** 6), 1)
        self.check_spans(poly([(0, 1), (Fraction(-1, BIG), 1)]), O, ONE, ONE, 1)
        self.check_spans(p, (-BIG, 1), (BIG, 1), ONE, 4)
        self.assertEqual(root_spans(row(5), O, ONE, ONE), ())
        self.assertEqual(roots_between(row(-5), O, ONE), 0)
        for call in (lambda: roots_between((), O, ONE), lambda: root_spans((), O, ONE, ONE)):
            with self.assertRaises(CanNot):
                call()

    def test_twelve_great_fractions(self):
        roots = [Fraction(BIG - k, 3 * BIG - 7 * k) for k in range(6)]
        p = poly([(-own, 1) for own in roots] + [(-2, 0, 1), (1, 0, 1)], Fraction(-BIG, 7))
        spans = self.check_spans(p, LESS, ONE, (1, 10 ** 6), 6)
        for (l, r), root in zip(spans, sorted(roots)):
            self.assertTrue(value(l) <= root <= value(r))
        self.check_spans(p, (-BIG, 1), (BIG, 1), (1, 10 ** 6), 8)


class OutsideTests(unittest.TestCase):

    def test_zeros_outside_of_products(self):
        chance = random.Random(26)
        for _ in range(250):
            chosen = [chance.choice(FACTORS) for _ in range(chance.randint(0, 5))]
            p = poly([own[0] for own in chosen], chance.choice((1, -1, "5/3", -BIG)))
            self.assertEqual(zeros_outside(p), sum(own[1] for own in chosen))
            back = p[::-1]
            while back[-1] == O:
                back = back[:-1]
            noughts = sum(1 for own in chosen if own[0] == (0, 1))
            on_rim = sum(own[2] for own in chosen)
            self.assertEqual(zeros_outside(p) + zeros_outside(back) + on_rim, len(p) - 1 - noughts)

    def test_zeros_near_the_rim(self):
        tiny = Fraction(1, BIG)
        for shift, many in ((tiny, 1), (0, 0), (-tiny, 0)):
            self.assertEqual(zeros_outside(poly([(1 + shift, 1)])), many)
            self.assertEqual(zeros_outside(poly([(-1 - shift, 1)] * 3)), 3 * many)
            self.assertEqual(zeros_outside(poly([(1 + shift, "-6/5", 1)] * 2)), 4 * many)
            self.assertEqual(zeros_outside(poly([(1 + shift, 0, 1), (1, 0, 1), (2, 1)])), 2 * many + 1)

    def test_bounds_of_cells(self):
        self.assertEqual([zeros_outside(poly([(-2, 1)] * k + [("1/2", 1)] * (11 - k))) for k in range(12)],
                         list(range(12)))
        self.assertEqual(zeros_outside(row(7)), 0)
        self.assertEqual(zeros_outside(row(0, 0, 7)), 0)
        with self.assertRaises(CanNot):
            zeros_outside(())


class TableTests(unittest.TestCase):

    def test_never_below(self):
        chance = random.Random(27)
        seen = {True: 0, False: 0}
        for _ in range(300):
            many = chance.randint(1, 4)
            own = any_table(chance, many, chance.choice((None, None, None, None, 0, 1, many - 1, many)))
            told = never_below_by_minors(table_values(own))
            seen[told] += 1
            self.assertIs(never_below(own), told)
            if told:
                with self.assertRaises(NoPaper):
                    row_below(own)
            else:
                found = row_below(own)
                self.assertEqual(len(found), many)
                self.assertLess(sum_over(own, found), 0)
        self.assertTrue(min(seen.values()) > 50)
        self.assertTrue(never_below(()))
        with self.assertRaises(NoPaper):
            row_below(())

    def test_tables_just_below(self):
        tiny = Fraction(1, BIG)
        for shift in (tiny, 0, -tiny):
            own = table([[1, 1], [1, 1 + shift]])
            self.assertIs(never_below(own), shift >= 0)
            own = table([[shift, 0], [0, 1]])
            self.assertIs(never_below(own), shift >= 0)
        for own in (table([[0, tiny], [tiny, BIG]]), table([[0, 1], [1, 0]]), table([[1, 1], [1, 1 - tiny]]),
                    table([[4, 2, 0], [2, 1, 1], [0, 1, BIG]])):
            self.assertIs(never_below(own), False)
            self.assertLess(sum_over(own, row_below(own)), 0)

    def test_twelve_rows(self):
        chance = random.Random(28)
        own = any_table(chance, 12, 5)
        self.assertTrue(never_below(own))
        lines = [list(line) for line in own]
        lines[11][11] = pair(value(lines[11][11]) - Fraction(1, BIG))
        own = tuple(tuple(line) for line in lines)
        self.assertFalse(never_below(own))
        self.assertLess(sum_over(own, row_below(own)), 0)

    def test_solved(self):
        chance = random.Random(29)
        none = 0
        for _ in range(200):
            many = chance.randint(1, 5)
            own = any_table(chance, many, chance.choice((None, 1, many - 1, many)))
            if chance.random() < 0.5:
                end = row(*[any_fraction(chance) for _ in range(many)])
            else:
                x = [any_fraction(chance) for _ in range(many)]
                end = row(*[sum(a * b for a, b in zip(line, x)) for line in table_values(own)])
            found = solved(own, end)
            if found is None:
                none += 1
                # Then some ROW is taken to 0 by the table, but not by what is asked.
                self.assertTrue(any(sum(a * b for a, b in zip(values(end), y)) != 0
                                    for y in kernel(table_values(own))))
            else:
                self.assertEqual([sum(a * b for a, b in zip(line, values(found))) for line in table_values(own)],
                                 values(end))
        self.assertTrue(none > 10)
        self.assertEqual(solved((), ()), ())
        self.assertEqual(solved(table([[0]]), row(0)) is None, False)


def kernel(rows):
    """Rows that span what the symmetric table of rows takes to 0."""
    rows = [list(own) for own in rows]
    many = len(rows)
    places = []
    for column in range(many):
        at = len(places)
        pick = next((i for i in range(at, many) if rows[i][column] != 0), None)
        if pick is None:
            continue
        rows[at], rows[pick] = rows[pick], rows[at]
        rows[at] = [own / rows[at][column] for own in rows[at]]
        for i in range(many):
            if i != at:
                rows[i] = [a - rows[i][column] * b for a, b in zip(rows[i], rows[at])]
        places.append(column)
    out = []
    for free in range(many):
        if free not in places:
            line = [Fraction(0)] * many
            line[free] = Fraction(1)
            for k, column in enumerate(places):
                line[column] = -rows[k][free]
            out.append(line)
    return out


if __name__ == "__main__":
    unittest.main()
