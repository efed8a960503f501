"""Point [8]: SQUARES, GAPS and STORES."""

import random
import unittest
from fractions import Fraction

from keepcompany.boxes import beat, summed, turned
from keepcompany.curves import curve, is_loss_free, rim_pair, slants
from keepcompany.errors import CanNot, NoPaper, Unfit
from keepcompany.numbers import roots_between, value_at
from keepcompany.stores import (are_squares, cell_bounds, gap_of, is_store, loss_free_store, square_gap,
                                squares_for, store, store_by, store_of_turned, stores_mixed, worth)

from helpers import (BIG, HALF, LESS, O, ONE, TWO, any_fraction, box, determinant, gap_by_hand, is_store_by_hand,
                     never_below_by_minors, pair, poly, row, sum_over, table, table_values, value, values)
from makers import BORDERS, HELPED, INNER, LOST, damper, fading, keeper, late_with_damper, loss_free, small_box, spring

FADE = box([1, 0], [1, "-1/2"])


def sums_of(p):
    """The sums whose CURVE is the POLY p in c, by powers of (z + 1 / z) / 2."""
    out = [Fraction(0)] * len(p)
    power = [Fraction(1)] + [Fraction(0)] * len(p)
    for own in values(p):
        out = [a + own * b for a, b in zip(out, power)]
        power = [(power[abs(k - 1)] + (power[k + 1] if k + 1 < len(power) else 0)) / 2 for k in range(len(power))]
    return row(*out)


def squares_hold(case, sums, squares):
    case.assertIsInstance(squares, tuple)
    many = len(sums)
    total = [Fraction(0)] * many
    for weight, line in squares:
        case.assertGreater(value(weight), 0)
        case.assertEqual(len(line), many)
        for k in range(many):
            total[k] += value(weight) * sum(value(line[i]) * value(line[i + k]) for i in range(many - k))
    case.assertEqual(total, values(sums))
    case.assertIs(are_squares(sums, squares), True)


class SquareTests(unittest.TestCase):

    def test_squares_for(self):
        chance = random.Random(51)
        seen = [0, 0]
        for _ in range(150):
            root = [any_fraction(chance) for _ in range(chance.randint(1, 3))]
            p = [sum(root[i] * root[k - i] for i in range(len(root)) if 0 <= k - i < len(root))
                 for k in range(2 * len(root) - 1)]
            p[0] += chance.choice((0, 1, Fraction(1, 10), Fraction(1, 10 ** 9), Fraction(-1, 5)))
            if chance.random() < 0.4:
                p = values(poly([p, (chance.choice((1, 2, Fraction(10 ** 9 + 1, 10 ** 9))), chance.choice((1, -1)))]))
            while p and p[-1] == 0:
                p.pop()
            sums = (sums_of(row(*p)) + (O,) * chance.randint(0, 1))[:6] if p else (O,)
            above = bool(p) and all(value(value_at(row(*p), c)) > 0 for c in (LESS, ONE)) \
                and roots_between(row(*p), LESS, ONE) == 0
            seen[above] += 1
            if above:
                squares_hold(self, sums, squares_for(sums))
            else:
                with self.assertRaises(CanNot):
                    squares_for(sums)
        self.assertTrue(min(seen) > 30)

    def test_squares_near_touches(self):
        for tiny in (Fraction(1, 10 ** 6), Fraction(1, BIG)):
            for factors in ([("-1/3", 1)] * 2, [(-1, 1)] * 2, [(-2, 0, 4)] * 2, [("-1/3", 1)] * 4, [(1, 1)] * 4,
                            [("-1/7", 1)] * 2 + [("-1/5", 1)] * 2):
                p = values(poly(factors))
                for more in (tiny, 0, -tiny):
                    own = row(p[0] + more, *p[1:])
                    if more > 0:
                        squares_hold(self, sums_of(own), squares_for(sums_of(own)))
                        odd = poly([values(own), (1 + tiny, -1)])
                        squares_hold(self, sums_of(odd), squares_for(sums_of(odd)))
                    else:
                        with self.assertRaises(CanNot):
                            squares_for(sums_of(own))

    def test_squares_of_each_length(self):
        for many in range(1, 7):
            sums = row(*[2 * many] + [1] * (many - 1))
            squares_hold(self, sums, squares_for(sums))
            sums = row(*[BIG] + [0] * (many - 1))
            squares_hold(self, sums, squares_for(sums))
            sums = row(*[Fraction(many * 2 + 1, BIG)] + [Fraction((-1) ** k, BIG - 1) for k in range(many - 1)])
            squares_hold(self, sums, squares_for(sums))
        # At one place nothing is left to be a square of its own.
        for sums in (row(1), row("1/7"), row(1, "1/3"), row(3, 1, "1/10"), row(3, -1, "-1/10", 0), row(3, 0, 1), row(4, 0, 0, 1)):
            squares_hold(self, sums, squares_for(sums))
        for sums in (row(0), row(-1), row(0, 0), row(1, 1), row(1, "1/2"), row(1, "-1/2"), row(0, 1)):
            with self.assertRaises(CanNot):
                squares_for(sums)

    def test_are_squares(self):
        leaf = ((ONE, (ONE, (-1, 2))), ((3, 4), (ONE, O)))
        sums = row(2, "-1/2")
        self.assertIs(are_squares(sums, leaf), True)
        self.assertIs(are_squares(sums, leaf[::-1]), True)
        self.assertIs(are_squares(row(0, 0), ()), True)
        self.assertIs(are_squares(row(1, "-1/2"), ((ONE, (ONE, LESS)), )), False)
        self.assertIs(are_squares(row(2, -1), ((ONE, (ONE, LESS)), )), True)
        for wrong in ((), leaf[:1], leaf + ((O, (ONE, O)),), list(leaf), (list(leaf[0]), leaf[1]),
                      ((ONE, [ONE, (-1, 2)]), leaf[1]), ((ONE, (ONE, (-1, 2), O)), leaf[1]), None, 3, True, "ab",
                      leaf + ((LESS, (ONE, O)), (ONE, (ONE, O))), ((ONE,), leaf[1]), leaf + (None,)):
            self.assertIs(are_squares(sums, wrong), False)


class GapTests(unittest.TestCase):

    def test_gaps_there_and_back(self):
        chance = random.Random(52)
        for _ in range(60):
            own = small_box(chance, chance.randint(0, 4))
            many = len(own[0]) - 1
            kept = [[any_fraction(chance) for _ in range(many)] for _ in range(many)]
            kept = table([[kept[max(i, j)][min(i, j)] for j in range(many)] for i in range(many)])
            gap = gap_of(own, kept)
            self.assertEqual(table_values(gap), gap_by_hand(own, kept))
            self.assertEqual(store_by(own, gap), kept)
            told = slants(own)
            for k in range(many + 1):
                self.assertEqual(sum(value(gap[i + k][i]) for i in range(many + 1 - k)), value(told[k]))
            lines = [list(line) for line in gap]
            i, j = chance.randint(0, many), chance.randint(0, many)
            lines[i][j] = lines[j][i] = pair(value(lines[i][j]) + 1)
            with self.assertRaises(CanNot):
                store_by(own, tuple(tuple(line) for line in lines))

    def test_square_gaps(self):
        chance = random.Random(53)
        for _ in range(150):
            own = small_box(chance, chance.randint(0, 4)) if chance.random() < 0.5 else keeper(chance)
            places = [Fraction(k, 50) for k in range(-50, 51)]
            try:
                square = square_gap(own)
            except CanNot:
                p = curve(own)
                lows = [c for c in places if value(value_at(p, pair(c))) < 0]
                self.assertTrue(lows or roots_between(p, LESS, ONE) > 0)
                continue
            self.assertTrue(all(value(value_at(curve(own), pair(c))) >= 0 for c in places))
            self.assertEqual(len(square), len(own[0]))
            self.assertTrue(never_below_by_minors(table_values(square)))
            for k, told in enumerate(slants(own)):
                self.assertEqual(sum(value(square[i + k][i]) for i in range(len(square) - k)), value(told))

    def test_square_gaps_of_givers(self):
        # The CURVE of each is nowhere below 0, but none of them keeps.
        for own in (spring(-1), summed(spring(-1), spring("1/2")), box([1, 3], [1, 2])):
            square = square_gap(own)
            self.assertTrue(never_below_by_minors(table_values(square)))
            made = store_by(own, square)
            self.assertEqual(gap_of(own, made), square)
            self.assertFalse(never_below_by_minors(table_values(made)))
            self.assertIs(is_store(own, made), False)
        self.assertEqual(square_gap(spring(-1)), table([[0, 0], [0, 0]]))
        with self.assertRaises(CanNot):
            square_gap(box([1, 0], [1, -2]))


class StoreTests(unittest.TestCase):

    def check_store(self, own):
        told = store(own)
        self.assertTrue(is_store_by_hand(own, told), own)
        self.assertIs(is_store(own, told), True)
        self.assertGreater(determinant(table_values(told)), 0)
        return told

    def test_a_store_for_every_keeper(self):
        chance = random.Random(54)
        for own in [keeper(chance) for _ in range(150)] + BORDERS + INNER:
            told = self.check_store(own)
            by_square = store_by(own, square_gap(own))
            self.assertTrue(is_store_by_hand(own, by_square))
            if own[0][0] != O:
                back = turned(own)
                self.assertTrue(is_store(back, store_of_turned(own, told)))
            mixed = stores_mixed(told, by_square, pair(Fraction(chance.randint(0, 7), 7)))
            self.assertTrue(is_store(own, mixed))
            self.check_beats(chance, own, told)

    def check_beats(self, chance, own, told):
        """In each beat the worth grows by push times answer less half the gap's sum."""
        many = len(own[0]) - 1
        cells = row(*[any_fraction(chance) for _ in range(many)])
        for _ in range(4):
            push = pair(any_fraction(chance))
            answer, behind = beat(own, cells, push)
            inner = value(push) - sum(value(a) * value(b) for a, b in zip(own[1][1:], cells))
            spent = sum_over(gap_of(own, told), (pair(inner),) + cells) / 2
            grown = value(worth(told, behind)) - value(worth(told, cells))
            self.assertEqual(grown, value(push) * value(answer) - spent)
            self.assertGreaterEqual(spent, 0)
            cells = behind

    def test_kinds_of_keepers(self):
        chance = random.Random(55)
        for made in (fading, late_with_damper, loss_free):
            for _ in range(30):
                self.check_store(made(chance))
        late4 = box([1, 0, 0, 0, -1], [1, 0, 0, 0, 0])
        self.check_store(late4)
        self.check_store(box([1, 0, 0, 0, 0, 1], [1, 0, 0, 0, 0, 0]))
        tiny = Fraction(1, BIG)
        self.check_store(box([1, 1 - tiny], [1, 0]))
        self.check_store(summed(late4, spring(tiny)))
        great = summed(summed(spring(Fraction(BIG, 7)), damper(tiny)), rim_pair((BIG - 1, BIG)))
        self.check_store(great)
        # Somewhat beyond the bounds: six cells.
        self.check_store(box([1, 0, 0, 0, 0, 0, 1], [1, 0, 0, 0, 0, 0, 0]))
        self.check_store(box([3, 0, 1, 0, 0, 0, 1], [1, 0, 0, 0, 0, 0, 0]))

    def test_no_store_for_givers(self):
        chance = random.Random(56)
        givers = LOST + [own for own, _ in HELPED]
        for own in givers:
            with self.assertRaises(NoPaper):
                store(own)
            for _ in range(5):
                many = len(own[0]) - 1
                line = [any_fraction(chance) for _ in range(many)]
                kept = table([[a * b + (i == j) for j, b in enumerate(line)] for i, a in enumerate(line)])
                self.assertIs(is_store(own, kept), False)

    def test_bent_stores(self):
        for own in BORDERS + INNER:
            many = len(own[0]) - 1
            told = store(own)
            if many == 0:
                self.assertEqual(told, ())
                continue
            self.assertIs(is_store(own, list(told)), False)
            self.assertIs(is_store(own, tuple(list(line) for line in told)), False)
            self.assertIs(is_store(own, told[:-1]), False)
            self.assertIs(is_store(own, told + ((O,) * (many + 1),)), False)
            far = table([[1000 * value(x) for x in line] for line in told])
            self.assertIs(is_store(own, far), is_store_by_hand(own, far))
            self.assertIs(is_store(own, far), False)
            less = table([[-value(x) for x in line] for line in told])
            self.assertIs(is_store(own, less), False)
            tiny = table([[value(x) + (Fraction(1, BIG) if i == j == 0 else 0) for j, x in enumerate(line)]
                          for i, line in enumerate(told)])
            self.assertIs(is_store(own, tiny), is_store_by_hand(own, tiny))
            if many > 1:
                bent = [list(line) for line in told]
                bent[0][1] = pair(value(bent[0][1]) + 1)
                self.assertIs(is_store(own, tuple(tuple(line) for line in bent)), False)
        self.assertEqual([is_store(damper(1), own) for own in ((), [], ((),), None, 0, False, "")],
                         [True] + [False] * 6)
        self.assertIs(is_store(damper(-1), ()), False)

    def test_loss_free_stores(self):
        chance = random.Random(57)
        for _ in range(30):
            own = loss_free(chance)
            told = loss_free_store(own)
            self.assertEqual(told, store(own))
            self.assertTrue(all(x == O for line in gap_of(own, told) for x in line))
            other = table([[value(x) + (Fraction(1, 1000) if i == j else 0) for j, x in enumerate(line)]
                           for i, line in enumerate(told)])
            self.assertIs(is_store(own, other), False)
        for own in INNER + LOST + [own for own in BORDERS if not is_loss_free(own)]:
            with self.assertRaises(CanNot):
                loss_free_store(own)

    def test_worths_and_mixtures(self):
        one, other = table([[2, 1], [1, 2]]), table([[1, 0], [0, -3]])
        self.assertEqual(worth(one, row(1, 2)), (7, 1))
        self.assertEqual(worth(other, row(1, 2)), (-11, 2))
        self.assertEqual(worth((), ()), O)
        self.assertEqual(stores_mixed(one, other, O), one)
        self.assertEqual(stores_mixed(one, other, ONE), other)
        self.assertEqual(stores_mixed(one, other, (1, 3)), table([["5/3", "2/3"], ["2/3", "1/3"]]))
        self.assertEqual(stores_mixed((), (), HALF), ())
        for call in (lambda: stores_mixed(one, ((ONE,),), HALF), lambda: stores_mixed((), ((ONE,),), HALF),
                     lambda: worth(one, row(1)), lambda: worth((), row(1))):
            with self.assertRaises(Unfit):
                call()
        with self.assertRaises(CanNot):
            store_of_turned(box([0, 1], [1, 0]), ((ONE,),))

    def test_cell_bounds(self):
        chance = random.Random(58)
        for _ in range(60):
            many = chance.randint(1, 5)
            lines = [[any_fraction(chance) for _ in range(many)] for _ in range(many)]
            own = table([[sum(lines[k][i] * lines[k][j] for k in range(many)) for j in range(many)]
                         for i in range(many)])
            most = abs(any_fraction(chance, 5, 4))
            rows = table_values(own)
            if determinant(rows) == 0:
                with self.assertRaises(CanNot):
                    cell_bounds(own, pair(most))
                continue
            told = values(cell_bounds(own, pair(most)))
            for k in range(many):
                minor = determinant([[rows[i][j] for j in range(many) if j != k] for i in range(many) if i != k])
                self.assertEqual(told[k], 2 * most * minor / determinant(rows))
        self.assertEqual(cell_bounds((), (3, 1)), ())
        for own in (table([[0]]), table([[-1]]), table([[1, 1], [1, 1]]), table([[1, 2], [2, 1]]),
                    table([[1, 0], [0, -1]])):
            with self.assertRaises(CanNot):
                cell_bounds(own, ONE)

    def test_cell_bounds_are_come_to_and_never_passed(self):
        chance = random.Random(59)
        for _ in range(25):
            own = keeper(chance)
            many = len(own[0]) - 1
            told = store(own)
            for cell in range(many):
                # The cells with the greatest one: what the table takes to that place.
                unit = [Fraction(int(k == cell)) for k in range(many)]
                rows = table_values(told)
                c = [determinant([[unit[i] if j == k else rows[i][j] for j in range(many)] for i in range(many)])
                     / determinant(rows) for k in range(many)]
                bounds = cell_bounds(told, worth(told, row(*c)))
                self.assertEqual(value(bounds[cell]), c[cell] ** 2)
            cells = row(*[any_fraction(chance) for _ in range(many)])
            bounds = values(cell_bounds(told, worth(told, cells)))
            # With no push, as with a damper of 0, the worth never grows.
            for _ in range(12):
                self.assertTrue(all(value(c) ** 2 <= most for c, most in zip(cells, bounds)))
                cells = beat(own, cells, O)[1]


if __name__ == "__main__":
    unittest.main()
