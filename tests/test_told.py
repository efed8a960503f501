"""Point [19]: ECHOES that are told, KEEPERS that begin with them, and what can follow."""

import random
import unittest
from fractions import Fraction

from keepcompany.boxes import echoes, is_small, late, summed
from keepcompany.curves import is_loss_free, rim_pair
from keepcompany.errors import CanNot, NoPaper, TooMany, Unfit
from keepcompany.keepers import is_keeper
from keepcompany.told import (can_be, end_box, first_off, from_steps, is_row_for_all, led_on, next_stretch, only_one,
                              row_for_all, some_box, steps_of)
from keepcompany.works import even_table, is_giving_row

from helpers import (BIG, HALF, LESS, O, ONE, TWO, any_fraction, box, determinant, never_below_by_minors, pair, row,
                     table_values, value, values)
from makers import BORDERS, HELPED, INNER, LOST, damper, keeper, loss_free, mass, small_box, spring

TINY = Fraction(1, BIG)


def table_of(heard):
    own = values(heard)
    return [[2 * own[0] if i == j else own[abs(i - j)] for j in range(len(own))] for i in range(len(own))]


def work_of_row(heard, pushes):
    """The WORK of pushes from REST, by told ECHOES, as Fractions."""
    told, own = values(heard), values(pushes)
    return sum(own[i] * sum(told[i - j] * own[j] for j in range(i + 1)) for i in range(len(own)))


def some_steps(chance, many, ends=False):
    """Steps strictly within -1 and 1, or with one of these and 0s behind."""
    out = [Fraction(chance.randint(-9, 9), 10) for _ in range(many)]
    if ends and many:
        at = chance.randrange(many)
        out = out[:at] + [Fraction(chance.choice((-1, 1)))] + [Fraction(0)] * (many - at - 1)
    return out


class CanBeTests(unittest.TestCase):

    def test_by_minors(self):
        chance = random.Random(191)
        seen = {}
        for _ in range(300):
            many = chance.randint(1, 6)
            heard = row(*[chance.randint(0, 3)] + [any_fraction(chance) for _ in range(many - 1)])
            if not any(values(heard)):
                continue
            self.judge(heard)
            seen[first_off(heard)] = seen.get(first_off(heard), 0) + 1
        self.assertGreater(seen[None], 60)
        self.assertTrue(all(seen[m] > 2 for m in (1, 2, 3, 4)), seen)

    def judge(self, heard):
        """What can_be, first_off, row_for_all tell, by the tables of all first ones."""
        offs = [m for m in range(1, len(heard) + 1)
                if heard[0] == O or not never_below_by_minors(table_of(heard[:m]))]
        self.assertIs(can_be(heard), not offs)
        self.assertEqual(first_off(heard), offs[0] if offs else None)
        if not offs:
            with self.assertRaises(NoPaper):
                row_for_all(heard)
            return
        told = row_for_all(heard)
        self.assertEqual(len(told), len(heard))
        self.assertLess(work_of_row(heard, told), 0)
        self.assertIs(is_row_for_all(heard, told), True)
        for call in (lambda: next_stretch(heard), lambda: led_on(heard, 0), lambda: end_box(heard, 0),
                     lambda: some_box(heard), lambda: only_one(heard), lambda: steps_of(heard)):
            with self.assertRaises(CanNot):
                call()

    def test_echoes_of_boxes(self):
        chance = random.Random(192)
        for own in [keeper(chance) for _ in range(40)] + [loss_free(chance) for _ in range(10)] + BORDERS + INNER:
            for k in (1, 2, 5, 12):
                heard = echoes(own, k)
                self.assertIs(can_be(heard), True)
                self.assertIsNone(first_off(heard))
        for own in LOST + [one for one, _ in HELPED] + [small_box(chance, chance.randint(0, 4)) for _ in range(60)]:
            heard = echoes(own, 12)
            if any(values(heard)) and not can_be(heard):
                told = row_for_all(heard)
                self.assertIs(is_giving_row(own, told), True)
                self.assertFalse(is_keeper(own))
                m = first_off(heard)
                self.assertTrue(m == 1 or not any(values(heard[:m - 1])) or can_be(heard[:m - 1]))
                self.assertTrue(not any(values(heard[:m])) or not can_be(heard[:m]))

    def test_echoes_that_begin_with_nought(self):
        for heard, off in (((O, ONE), 1), ((O, O, O, LESS), 1), ((LESS,), 1), ((O,) * 11 + (ONE,), 1), ((LESS, O), 1)):
            self.assertIs(can_be(heard), False)
            self.assertEqual(first_off(heard), off)
            self.assertLess(work_of_row(heard, row_for_all(heard)), 0)

    def test_rows_that_are_none(self):
        heard = row(1, 3, -2)
        told = row(1, -1, 0)
        self.assertIs(is_row_for_all(heard, told), True)
        for wrong in (told[:2], told + (O,), list(told), (list(ONE), LESS, O), row(1, 1, 0), row(0, 0, 0), (), None, True,
                      3, "row", ((True, 1), LESS, O), (ONE, LESS, (0, 2)), (ONE, LESS, 0), (told,)):
            self.assertIs(is_row_for_all(heard, wrong), False)
        # A row of WORK 0 is none; nor is any where heard can be.
        self.assertIs(is_row_for_all(row(1, 2), row(1, -1)), False)
        self.assertIs(is_row_for_all(row(1, "2000000001/1000000000"), row(1, -1)), True)
        self.assertIs(is_row_for_all(row(1, -2, 2, -2), row(1, 1, 1, 1)), False)

    def test_by_a_hair(self):
        for tiny in (TINY, TINY * TINY):
            for heard, off in ((row(1, 2 + tiny), 2), (row(1, -2 - tiny), 2), (row(1, 1, 2 + tiny), 3),
                               (row(1, 1, -1 - tiny), 3), (row(1, 2, 2 - tiny), 3), (row(-tiny), 1),
                               (row(1, 2, 2, 2, 2, 2, 2, 2, 2, 2, 2, 2 + tiny), 12), (row(tiny, 3 * tiny), 2)):
                self.assertEqual(first_off(heard), off)
                self.assertIs(can_be(heard), False)
                self.assertLess(work_of_row(heard, row_for_all(heard)), 0)
            for heard in (row(1, 2 - tiny), row(1, tiny - 2), row(1, 1, 2), row(1, 1, 2 - tiny), row(tiny),
                          row(tiny, 2 * tiny, 2 * tiny)):
                self.assertIs(can_be(heard), True)

    def test_twelve_and_more(self):
        self.assertIs(can_be((ONE,) * 12), True)
        for wrong in ((ONE,) * 13, (), (O,), (O,) * 12, ONE, None, "heard"):
            for call in (lambda: can_be(wrong), lambda: first_off(wrong), lambda: row_for_all(wrong),
                         lambda: is_row_for_all(wrong, ()), lambda: next_stretch(wrong), lambda: led_on(wrong, 1),
                         lambda: end_box(wrong, 0), lambda: some_box(wrong), lambda: only_one(wrong),
                         lambda: steps_of(wrong)):
                with self.assertRaises(Unfit):
                    call()
        # Unfit goes ahead of CanNot.
        off = row(1, 3)
        for call in (lambda: led_on(off, 41), lambda: led_on(off, -1), lambda: led_on(off, True), lambda: end_box(off, 2),
                     lambda: end_box(off, -1), lambda: end_box(off, False), lambda: end_box(off, None)):
            with self.assertRaises(Unfit):
                call()


class NextTests(unittest.TestCase):

    def test_stretches(self):
        chance = random.Random(193)
        singles = 0
        for _ in range(120):
            heard = from_steps(pair(chance.randint(1, 4)), row(*some_steps(chance, chance.randint(0, 5),
                                                                         chance.random() < 0.2)))
            low, high = values(next_stretch(heard))
            singles += low == high
            self.assertLessEqual(low, high)
            for end in (low, high, (low + high) / 2):
                self.assertTrue(never_below_by_minors(table_of(heard + (pair(end),))))
                self.assertIs(can_be(heard + (pair(end),)), True)
            for end in (low - TINY, high + TINY, low - 1, high + 3):
                self.assertIs(can_be(heard + (pair(end),)), False)
            self.assertEqual(only_one(heard) is None, low < high)
            # Its length is what the determinants of the tables tell.
            big, small = determinant(table_of(heard)), determinant(table_of(heard[:-1]))
            if small != 0:
                self.assertEqual(high - low, 2 * big / small)
            self.judge_boxes(heard, low, high)
        self.assertGreater(singles, 8)

    def judge_boxes(self, heard, low, high):
        many = len(heard)
        some = some_box(heard)
        for own in (some, end_box(heard, 0), end_box(heard, 1)):
            self.assertTrue(is_small(own))
            self.assertTrue(is_keeper(own))
            self.assertLessEqual(len(own[0]) - 1, many)
            self.assertEqual(echoes(own, many), heard)
        for which, end in ((0, low), (1, high)):
            own = end_box(heard, which)
            self.assertEqual(value(echoes(own, many + 1)[-1]), end)
            self.assertTrue(is_loss_free(own))
            if low < high:
                self.assertEqual(len(own[0]) - 1, many)
            else:
                self.assertEqual(own, only_one(heard))
        following = value(echoes(some, many + 1)[-1])
        self.assertTrue(low <= following <= high)

    def test_the_only_one(self):
        chance = random.Random(194)
        for own in [loss_free(chance) for _ in range(25)] + [spring(2), mass("1/3"), rim_pair((1, 7))]:
            cells = len(own[0]) - 1
            if cells > 11:
                continue
            heard = echoes(own, 12)
            for m in range(1, 13):
                if m <= cells:
                    self.assertIsNone(only_one(heard[:m]))
                else:
                    self.assertEqual(only_one(heard[:m]), own)
                    self.assertEqual(some_box(heard[:m]), own)
                    self.assertEqual(next_stretch(heard[:m])[0], next_stretch(heard[:m])[1])
                    self.assertEqual(led_on(heard[:m], 20), echoes(own, m + 20))
                if m in (cells, cells + 1):
                    ends = [end_box(heard[:m], which) for which in (0, 1)]
                    self.assertIn(own, ends)
        for own in INNER:
            self.assertIsNone(only_one(echoes(own, 12)))

    def test_led_on(self):
        chance = random.Random(195)
        for _ in range(40):
            heard = from_steps((3, 2), row(*some_steps(chance, chance.randint(0, 7), chance.random() < 0.2)))
            told = led_on(heard, 6)
            self.assertEqual(len(told), len(heard) + 6)
            self.assertEqual(told[:len(heard)], heard)
            for k in range(min(5, 12 - len(heard)) + 1):
                self.assertEqual(led_on(heard, k), told[:len(heard) + k])
                if k:
                    low, high = values(next_stretch(told[:len(heard) + k - 1]))
                    self.assertEqual(value(told[len(heard) + k - 1]), (low + high) / 2)
            self.assertEqual(told, echoes(some_box(heard), len(told)))
        self.assertEqual(led_on((ONE,), 40), (ONE,) + (O,) * 40)
        self.assertEqual(led_on(row(1, 2), 40), (ONE,) + (TWO,) * 41)
        self.assertEqual(led_on((ONE,) * 12, 0), (ONE,) * 12)
        self.assertEqual(len(led_on((ONE,) * 12, 40)), 52)

    def test_ends_of_a_damper_and_more(self):
        self.assertEqual(end_box((ONE,), 1), spring(1))
        self.assertEqual(end_box((ONE,), 0), mass(1))
        self.assertEqual(some_box((ONE, O, O)), damper(1))
        self.assertEqual(next_stretch((ONE, O, O)), row(-2, 2))
        self.assertEqual(end_box((ONE, O), 0), rim_pair(O))
        self.assertEqual(end_box((ONE, O), 1), box([1, 0, 1], [1, 0, -1]))
        self.assertEqual(only_one(row(1, -2)), mass(1))


class StepTests(unittest.TestCase):

    def test_there_and_back(self):
        chance = random.Random(196)
        for _ in range(150):
            first, steps = Fraction(chance.randint(1, 5), 3), some_steps(chance, chance.randint(0, 11), chance.random() < 0.3)
            heard = from_steps(pair(first), row(*steps))
            self.assertEqual(len(heard), len(steps) + 1)
            self.assertEqual(steps_of(heard), row(*steps))
            self.assertIs(can_be(heard), True)
            half = 2 * first
            for k, step in enumerate(steps):
                low, high = values(next_stretch(heard[:k + 1]))
                self.assertEqual((high - low) / 2, half)
                self.assertEqual(value(heard[k + 1]), (low + high) / 2 + step * half)
                half *= 1 - step * step
        for own in [keeper(chance) for _ in range(20)] + BORDERS:
            heard = echoes(own, 12)
            told = steps_of(heard)
            self.assertTrue(all(-1 <= step <= 1 for step in values(told)))
            self.assertEqual(from_steps(heard[0], told), heard)

    def test_steps_at_the_ends(self):
        self.assertEqual(from_steps(ONE, (ONE, O, O)), row(1, 2, 2, 2))
        self.assertEqual(from_steps(ONE, (LESS, O, O)), row(1, -2, 2, -2))
        self.assertEqual(from_steps(HALF, ()), (HALF,))
        self.assertEqual(from_steps(ONE, (O, ONE)), row(1, 0, 2))
        self.assertEqual(from_steps(ONE, (O,) * 11), (ONE,) + (O,) * 11)
        self.assertEqual(steps_of((ONE,)), ())
        self.assertEqual(steps_of(row(1, 2, 2)), (ONE, O))
        for first in (O, LESS, 1, None, (2, 2), (True, 1)):
            with self.assertRaises(Unfit):
                from_steps(first, (HALF,))
        for steps in ((TWO,), (HALF, (-3, 2)), (ONE, HALF), (LESS, O, ONE), (HALF, ONE, (1, BIG)), (O,) * 12, (O,) * 11 + (ONE,),
                      HALF, None, (0,), ((2, 2),), ((BIG + 1, BIG),), (ONE, LESS)):
            with self.assertRaises(Unfit):
                from_steps(ONE, steps)
        self.assertEqual(from_steps(ONE, ((BIG - 1, BIG), (1 - BIG, BIG)))[0], ONE)

    def test_fractions_of_whatever_size(self):
        chance = random.Random(197)
        huge = 10 ** 90
        for _ in range(4):
            steps = [Fraction(chance.randint(-huge, huge), huge + chance.randint(1, 9)) for _ in range(11)]
            first = Fraction(chance.randint(1, huge), chance.randint(1, huge))
            heard = from_steps(pair(first), row(*steps))
            self.assertEqual(steps_of(heard), row(*steps))
            self.assertIs(can_be(heard), True)
            low, high = next_stretch(heard)
            self.assertIs(can_be(heard[:11] + (next_stretch(heard[:11])[0],)), True)
            for which, end in ((0, low), (1, high)):
                own = end_box(heard, which)
                self.assertEqual(len(own[0]) - 1, 12)
                self.assertEqual(echoes(own, 13), heard + (end,))
                self.assertTrue(is_loss_free(own))
            bent = heard[:11] + (pair(value(next_stretch(heard[:11])[1]) + Fraction(1, huge ** 9)),)
            self.assertIs(can_be(bent), False)
            self.assertEqual(first_off(bent), 12)
            self.assertLess(work_of_row(bent, row_for_all(bent)), 0)
        scale = Fraction(huge, 7)
        for heard in (row(1, "1/2", "-1/3"), row(1, 2, 2), row(1, 3)):
            great = row(*[scale * x for x in values(heard)])
            self.assertIs(can_be(great), can_be(heard))
            if can_be(heard):
                self.assertEqual(values(next_stretch(great)), [scale * x for x in values(next_stretch(heard))])

    def test_the_even_table_and_beats_tell_the_same(self):
        chance = random.Random(198)
        for _ in range(40):
            own = small_box(chance, chance.randint(0, 4))
            heard = echoes(own, chance.randint(1, 8))
            if not any(values(heard)):
                continue
            self.assertEqual(table_values(even_table(heard)), table_of(heard))
            pushes = row(*[any_fraction(chance) for _ in heard])
            self.assertIs(is_row_for_all(heard, pushes), is_giving_row(own, pushes))

    def test_keepers_that_are_summed_or_late(self):
        chance = random.Random(199)
        for _ in range(30):
            one, other = keeper(chance), keeper(chance)
            both = [a + b for a, b in zip(values(echoes(one, 12)), values(echoes(other, 12)))]
            self.assertIs(can_be(row(*both)), True)
            try:
                self.assertEqual(echoes(summed(one, other), 12), row(*both))
                self.assertIs(can_be(echoes(late(one, 1), 12)), False)
            except TooMany:
                pass


if __name__ == "__main__":
    unittest.main()
