"""Point [15]: what can be drawn out of the CELLS of a KEEPER, and what brings CELLS there."""

import random
import unittest
from fractions import Fraction

from keepcompany.boxes import run, summed
from keepcompany.curves import is_loss_free, rim_pair
from keepcompany.drawn import (between, come_to, drawing_row, drawn_all, drawn_table, is_drawing_row, most_drawn, need,
                               needing_row, never_more, rises)
from keepcompany.errors import CanNot, Unfit
from keepcompany.keepers import is_keeper
from keepcompany.stores import loss_free_store, store, worth

from helpers import (BIG, HALF, LESS, O, ONE, TWO, answers_by_hand, any_fraction, box, never_below_by_minors, pair, row,
                     sum_over, table, table_values, value, values, work_by_hand)
from makers import BORDERS, HELPED, INNER, LOST, damper, keeper, loss_free, mass, small_box, spring

DAMPED = box([2, 0], [1, -1])
RING = box([1, 0, -1], [1, 0, 1])
LAG = box([0, 1], [1, 0])


def some_cells(chance, own):
    return row(*[any_fraction(chance) for _ in range(len(own[0]) - 1)])


def keepers(chance, many):
    return BORDERS + INNER + [keeper(chance) for _ in range(many)] + [loss_free(chance) for _ in range(many // 3)]


def moved_by(pushes, direction, by):
    return row(*[a + by * b for a, b in zip(values(pushes), direction)])


def is_flat(own, pushes, cells, direction):
    """Whether WORK neither grows nor falls at pushes along direction: it is as much on both sides."""
    return (work_by_hand(own, moved_by(pushes, direction, 1), cells)
            == work_by_hand(own, moved_by(pushes, direction, -1), cells))


def units(k):
    return [[Fraction(i == j) for j in range(k)] for i in range(k)]


def ways_to_rest(own, k):
    """Pushes of k from REST to REST, of which all such are made: bottoms, at each place where they go in."""
    bottoms = values(own[1])
    return [[Fraction(0)] * at + bottoms + [Fraction(0)] * (k - at - len(bottoms)) for at in range(k - len(bottoms) + 1)]


class DrawnTests(unittest.TestCase):

    def test_most_drawn(self):
        chance = random.Random(151)
        for own in keepers(chance, 40):
            cells, k = some_cells(chance, own), chance.randint(0, 8)
            most, told = value(most_drawn(own, cells, k)), drawing_row(own, cells, k)
            self.assertEqual(len(told), k)
            self.assertEqual(work_by_hand(own, told, cells), -most)
            # No row of a KEEPER from REST has WORK below 0: where it is flat it is least.
            for direction in units(k):
                self.assertTrue(is_flat(own, told, cells, direction))
            self.assertIs(is_drawing_row(own, cells, k, told), True)
            self.judge_other_rows(own, cells, k, told, most, chance)
            up = values(rises(own, cells, k))
            self.assertEqual(up, [value(most_drawn(own, cells, j)) for j in range(1, k + 1)])
            self.assertEqual(up, sorted(up))
            self.assertTrue(all(own_k >= 0 for own_k in up))

    def judge_other_rows(self, own, cells, k, told, most, chance):
        for _ in range(4):
            other = row(*[a + any_fraction(chance) * Fraction(1, chance.choice((1, 50))) for a in values(told)])
            work = -work_by_hand(own, other, cells)
            self.assertLessEqual(work, most)
            self.assertIs(is_drawing_row(own, cells, k, other), work == most)
        for wrong in (told + (O,), list(told), None, True, tuple(list(x) for x in told) + (O,), (told,), 5):
            if wrong != told:
                self.assertIs(is_drawing_row(own, cells, k, wrong), False)

    def test_known_draws(self):
        self.assertEqual(most_drawn(DAMPED, (ONE,), 8), (8, 9))
        self.assertEqual(rises(DAMPED, (TWO,), 4), row(2, "8/3", 3, "16/5"))
        self.assertEqual(most_drawn(spring(2), (ONE,), 1), TWO)
        self.assertEqual(most_drawn(damper(3), (), 5), O)
        self.assertEqual(drawing_row(damper(3), (), 2), (O, O))
        self.assertEqual(drawn_table(damper(3), 4), ())
        self.assertEqual(drawn_table(DAMPED, 0), ((O,),))
        self.assertEqual(drawn_table(DAMPED, 1), ((ONE,),))
        self.assertEqual(most_drawn(DAMPED, (ONE,), 0), O)
        self.assertEqual(drawing_row(DAMPED, (ONE,), 0), ())
        self.assertIs(is_drawing_row(DAMPED, (ONE,), 0, ()), True)
        self.assertIs(is_drawing_row(DAMPED, (ONE,), 0, (O,)), False)
        self.assertEqual(rises(DAMPED, (ONE,), 0), ())
        # Many rows do as well: a spring without a damper gives all in one beat, or in two.
        for told in (row(-1, 0), row("-1/3", "-2/3"), row(5, -6)):
            self.assertIs(is_drawing_row(spring(1), (ONE,), 2, told), True)
        self.assertIs(is_drawing_row(spring(1), (ONE,), 2, row(-1, 1)), False)
        self.assertIs(is_drawing_row(spring(1), (ONE,), 2, row(-1, 0, 0)), False)

    def test_tables_of_what_is_drawn(self):
        chance = random.Random(152)
        for own in keepers(chance, 25):
            k = chance.randint(0, 8)
            told = drawn_table(own, k)
            many = len(own[0]) - 1
            self.assertEqual([len(line) for line in told], [many] * many)
            self.assertEqual(told, tuple(zip(*told)))
            for _ in range(3):
                cells = some_cells(chance, own)
                self.assertEqual(sum_over(told, cells) / 2, value(most_drawn(own, cells, k)))
            self.assertIs(never_more(own, store(own), k), True)
            self.judge_never_more(own, told, k, chance)

    def judge_never_more(self, own, told, k, chance):
        many = len(told)
        for shift in (0, Fraction(1, BIG), Fraction(-1, BIG), any_fraction(chance)):
            made = [[x + (shift if i == j == many - 1 else 0) for j, x in enumerate(line)]
                    for i, line in enumerate(table_values(told))]
            less = [[a - b for a, b in zip(line, other)] for line, other in zip(made, table_values(told))]
            self.assertIs(never_more(own, table(made), k), never_below_by_minors(less))

    def test_need(self):
        chance = random.Random(153)
        nones = 0
        for own in keepers(chance, 40):
            many = len(own[0]) - 1
            cells, k = some_cells(chance, own), chance.randint(0, 8)
            if chance.random() < 0.3 and many:
                cells = cells[:chance.randint(0, many)] + (O,) * many
                cells = cells[:many]
            least, told, some = need(own, cells, k), needing_row(own, cells, k), come_to(own, cells, k)
            # From REST k pushes fill k cells at most, the others are still 0.
            if any(values(cells[k:])):
                nones += 1
                self.assertEqual((least, told, some), (None, None, None))
                self.assertLess(k, many)
                continue
            for pushes in (told, some):
                self.assertEqual(len(pushes), k)
                self.assertEqual(run(own, (O,) * many, pushes)[1], cells)
            self.assertEqual(work_by_hand(own, told), value(least))
            self.assertLessEqual(value(least), work_by_hand(own, some))
            for direction in ways_to_rest(own, k):
                self.assertTrue(is_flat(own, told, None, direction))
            if k < 8:
                self.assertLessEqual(value(need(own, cells, k + 1)), value(least))
        self.assertTrue(nones > 5)

    def test_known_needs(self):
        self.assertEqual([need(DAMPED, (ONE,), k) for k in range(1, 9)], [pair(1 + Fraction(1, k)) for k in range(1, 9)])
        self.assertIsNone(need(DAMPED, (ONE,), 0))
        self.assertEqual(need(DAMPED, (O,), 0), O)
        self.assertEqual(needing_row(DAMPED, (O,), 0), ())
        self.assertEqual(come_to(DAMPED, (O,), 0), ())
        self.assertEqual(need(damper(3), (), 0), O)
        self.assertEqual(need(damper(3), (), 4), O)
        self.assertEqual(needing_row(damper(3), (), 4), (O,) * 4)
        self.assertEqual(need(RING, (ONE, O), 1), ONE)
        self.assertIsNone(needing_row(RING, (O, ONE), 1))

    def test_draws_worth_and_needs(self):
        chance = random.Random(154)
        for own in keepers(chance, 30):
            cells, k = some_cells(chance, own), chance.randint(0, 8)
            kept = store(own)
            out, held, least = between(own, kept, cells, k)
            self.assertEqual((out, held, least), (most_drawn(own, cells, k), worth(kept, cells), need(own, cells, k)))
            self.assertLessEqual(value(out), value(held))
            if least is not None:
                self.assertLessEqual(value(held), value(least))
            if is_loss_free(own) and k >= len(cells):
                self.assertEqual((out, least), (held, held))
            made = tuple(tuple(pair(-x) for x in values(line)) for line in kept)
            self.assertEqual(between(own, made, cells, k)[1], pair(-value(held)))

    def test_all_that_is_drawn(self):
        chance = random.Random(155)
        free = [spring(1), mass("1/3"), rim_pair((1, 3)), RING] + [loss_free(chance) for _ in range(25)]
        for own in free:
            cells = some_cells(chance, own)
            told = drawn_all(own, cells)
            self.assertEqual(len(told), len(cells))
            self.assertEqual(answers_by_hand(own, told, cells)[1], [0] * len(cells))
            self.assertEqual(work_by_hand(own, told, cells), -value(worth(loss_free_store(own), cells)))
            for k in range(len(cells), 9, 2):
                held = worth(store(own), cells)
                self.assertEqual(between(own, store(own), cells, k), (held, held, held))
        for own in INNER + [keeper(chance) for _ in range(10)] + LOST + [spring(-1), DAMPED]:
            if not is_loss_free(own):
                with self.assertRaises(CanNot):
                    drawn_all(own, some_cells(chance, own))

    def test_no_giver(self):
        chance = random.Random(156)
        owns = LOST + [own for own, _ in HELPED] + [small_box(chance, chance.randint(0, 4)) for _ in range(30)]
        for own in owns:
            if is_keeper(own):
                continue
            cells = some_cells(chance, own)
            made = tuple((O,) * len(cells) for _ in cells)
            for k in (0, 3):
                for call in (lambda: most_drawn(own, cells, k), lambda: drawing_row(own, cells, k),
                             lambda: is_drawing_row(own, cells, k, ()), lambda: is_drawing_row(own, cells, k, None),
                             lambda: rises(own, cells, k), lambda: drawn_table(own, k), lambda: need(own, cells, k),
                             lambda: needing_row(own, cells, k), lambda: come_to(own, cells, k),
                             lambda: between(own, made, cells, k), lambda: never_more(own, made, k),
                             lambda: drawn_all(own, cells)):
                    with self.assertRaises(CanNot):
                        call()

    def test_wrong_numbers(self):
        for k in (-1, 9, True, None, ONE, "1"):
            for own in (DAMPED, LAG):
                for call in (lambda: most_drawn(own, (ONE,), k), lambda: drawing_row(own, (ONE,), k),
                             lambda: is_drawing_row(own, (ONE,), k, ()), lambda: rises(own, (ONE,), k),
                             lambda: drawn_table(own, k), lambda: need(own, (ONE,), k),
                             lambda: needing_row(own, (ONE,), k), lambda: come_to(own, (ONE,), k),
                             lambda: between(own, ((ONE,),), (ONE,), k), lambda: never_more(own, ((ONE,),), k)):
                    with self.assertRaises(Unfit):
                        call()
        for cells in ((), (ONE, ONE), (1,), ONE, None):
            for own in (DAMPED, LAG):
                with self.assertRaises(Unfit):
                    most_drawn(own, cells, 2)
                with self.assertRaises(Unfit):
                    drawn_all(own, cells)
        for made in ((), ((ONE, O), (O, ONE)), ((1,),), None):
            with self.assertRaises(Unfit):
                between(DAMPED, made, (ONE,), 2)
            with self.assertRaises(Unfit):
                never_more(DAMPED, made, 2)

    def test_great_numbers(self):
        tiny = Fraction(1, BIG)
        for own in (summed(spring(BIG), damper(tiny)), box([1, 0], [1, tiny - 1]), summed(mass(tiny), damper(BIG))):
            cells = row(BIG - 1)
            most, told = value(most_drawn(own, cells, 8)), drawing_row(own, cells, 8)
            self.assertEqual(work_by_hand(own, told, cells), -most)
            self.assertTrue(all(is_flat(own, told, cells, direction) for direction in units(8)))
            told = needing_row(own, cells, 8)
            self.assertEqual(work_by_hand(own, told), value(need(own, cells, 8)))
            self.assertTrue(all(is_flat(own, told, None, direction) for direction in ways_to_rest(own, 8)))
        self.assertEqual(most_drawn(DAMPED, (HALF,), 2), pair(Fraction(1, 6)))
        self.assertEqual(most_drawn(DAMPED, (LESS,), 2), pair(Fraction(2, 3)))


if __name__ == "__main__":
    unittest.main()
