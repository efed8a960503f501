"""Point [6]: WORK, EVEN TABLES and GIVING ROWS."""

import random
import unittest
from fractions import Fraction

from keepcompany.boxes import echoes, run, rest, summed, turned
from keepcompany.errors import CanNot, NoPaper, TooMany, Unfit
from keepcompany.works import (even_table, first_gift, gives_within, giving_row, is_giving_row,
                               turned_row, work_by_table, work_of, work_of_sum, work_sums)

from helpers import (BIG, LESS, O, ONE, any_fraction, box, never_below_by_minors, pair, row, sum_over,
                     table_values, value, work_by_hand)
from makers import HELPED, LOST, damper, keeper, small_box, spring

LAG = box([0, 1], [1, 0])


def late_gift(k):
    """A BOX that gives, at the earliest, by k pushes: 1, and 1 k - 1 beats late, and a bit."""
    return box([1] + [0] * (k - 2) + [3], [1] + [0] * (k - 1))


class WorkTests(unittest.TestCase):

    def test_work_by_hand(self):
        chance = random.Random(31)
        for _ in range(80):
            own = small_box(chance, chance.randint(0, 4))
            many = len(own[0]) - 1
            pushes = row(*[any_fraction(chance) for _ in range(chance.randint(0, 8))])
            for cells in (rest(own), row(*[any_fraction(chance) for _ in range(many)])):
                self.assertEqual(value(work_of(own, cells, pushes)), work_by_hand(own, pushes, cells))
                self.assertEqual(work_sums(own, cells, pushes),
                                 row(*[work_by_hand(own, pushes[:k + 1], cells) for k in range(len(pushes))]))
        self.assertEqual(work_of(spring(1), (ONE,), ()), O)
        self.assertEqual(work_sums(damper(3), (), ()), ())
        great = box([BIG, Fraction(1, BIG)], [1, Fraction(-BIG, 3)])
        pushes = row(*[BIG - k for k in range(40)])
        self.assertEqual(value(work_of(great, row(7), pushes)), work_by_hand(great, pushes, row(7)))

    def test_even_tables(self):
        chance = random.Random(32)
        for _ in range(60):
            own = small_box(chance, chance.randint(0, 4))
            k = chance.randint(1, 12)
            heard = echoes(own, k)
            made = even_table(heard)
            for i in range(k):
                for j in range(k):
                    self.assertEqual(value(made[i][j]), 2 * value(heard[0]) if i == j else value(heard[abs(i - j)]))
            pushes = row(*[any_fraction(chance) for _ in range(chance.randint(0, k))])
            work = work_by_hand(own, pushes)
            self.assertEqual(value(work_by_table(heard, pushes)), work)
            self.assertEqual(sum_over(made, pushes + (O,) * (k - len(pushes))) / 2, work)
        self.assertEqual(even_table((O,)), ((O,),))
        self.assertEqual(work_by_table((ONE,), ()), O)
        for heard, pushes in (((ONE,), (ONE, ONE)), ((ONE, O), (O, O, O))):
            with self.assertRaises(Unfit):
                work_by_table(heard, pushes)

    def test_giving_rows(self):
        chance = random.Random(33)
        gave = 0
        for _ in range(120):
            own = small_box(chance, chance.randint(0, 4)) if chance.random() < 0.6 else keeper(chance)
            tables = [table_values(even_table(echoes(own, k))) for k in range(1, 6)]
            kept = [never_below_by_minors(own) for own in tables]
            first = kept.index(False) + 1 if False in kept else None
            self.assertEqual(first_gift(own, 5), first)
            self.assertFalse(gives_within(own, 0))
            with self.assertRaises(NoPaper):
                giving_row(own, 0)
            for k in range(1, 6):
                self.assertEqual(gives_within(own, k), not kept[k - 1])
                if kept[k - 1]:
                    with self.assertRaises(NoPaper):
                        giving_row(own, k)
                    continue
                gave += 1
                found = giving_row(own, k)
                self.assertLessEqual(len(found), k)
                self.assertLess(work_by_hand(own, found), 0)
                self.assertTrue(is_giving_row(own, found))
                self.assertTrue(is_giving_row(own, found + (O, O)))
                self.assertEqual(first_gift(own, first), first)
                self.assertIsNone(first_gift(own, first - 1))
        self.assertTrue(gave > 60)

    def test_twelve_pushes(self):
        for k in (2, 5, 11, 12):
            own = late_gift(k) if k < 12 else box([1] + [0] * 10 + [3], [1] + [0] * 11)
            self.assertEqual(first_gift(own, 12), k)
            self.assertFalse(gives_within(own, k - 1))
            self.assertTrue(is_giving_row(own, giving_row(own, 12)))
        self.assertIsNone(first_gift(spring(1), 12))
        self.assertEqual(first_gift(damper(-1), 1), 1)
        self.assertIsNone(first_gift(damper(-1), 0))
        tiny = Fraction(1, BIG)
        self.assertEqual([first_gift(box([1, 1 + own], [1, -1]), 12) for own in (tiny, 0, -tiny)], [2, None, None])
        self.assertEqual(first_gift(box([1, 1 + Fraction(1, 10)], [1, "-9/10"]), 12), 3)
        for own in LOST + [own for own, _ in HELPED]:
            self.assertEqual(gives_within(own, 12), first_gift(own, 12) is not None)

    def test_is_giving_row(self):
        self.assertTrue(is_giving_row(LAG, row(*[1, -1] + [0] * 60)))
        for wrong in ((), (ONE,), (ONE, ONE), [ONE, LESS], (ONE, [-1, 1]), (ONE, (-2, 2)), (ONE, (-1, True)),
                      None, 3, True, "ab", (ONE, LESS, None), ((ONE, LESS),)):
            self.assertIs(is_giving_row(LAG, wrong), False)
        # WORK of 0 is not below 0.
        self.assertIs(is_giving_row(spring(1), row(1, -1)), False)

    def test_turned_rows(self):
        chance = random.Random(34)
        for _ in range(40):
            own = small_box(chance, chance.randint(0, 4))
            pushes = row(*[any_fraction(chance) for _ in range(6)])
            if own[0][0] == O:
                with self.assertRaises(CanNot):
                    turned_row(own, pushes)
                continue
            back, told = turned(own), turned_row(own, pushes)
            self.assertEqual(run(back, rest(back), told)[0], pushes)
            self.assertEqual(value(work_of(back, rest(back), told)), work_by_hand(own, pushes))

    def test_work_of_sums(self):
        chance = random.Random(35)
        for _ in range(40):
            one, other = small_box(chance, chance.randint(0, 3)), small_box(chance, chance.randint(0, 3))
            pushes = row(*[any_fraction(chance) for _ in range(5)])
            told = work_of_sum(one, other, pushes)
            self.assertEqual(told, row(work_by_hand(one, pushes), work_by_hand(other, pushes)))
            try:
                both = summed(one, other)
            except (CanNot, TooMany):
                continue
            self.assertEqual(work_by_hand(both, pushes), value(told[0]) + value(told[1]))
        self.assertEqual(work_of_sum(spring(1), spring(-1), row(2, 1)), row(9, -9))


if __name__ == "__main__":
    unittest.main()
