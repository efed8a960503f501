"""Point [4]: BOXES, their beats, their ECHOES, and BOXES made of BOXES."""

import random
import unittest
from fractions import Fraction

from keepcompany.boxes import (beat, echoes, is_box, is_small, late, made_small, rest, run, summed,
                               times, turned)
from keepcompany.errors import CanNot, TooMany

from helpers import (BIG, HALF, LESS, O, ONE, TWO, answers_by_hand, any_box, any_fraction, box,
                     determinant, pair, row, values)

SPRING = box([1, 1], [1, -1])
WIDE = box([1, 0, -1], [1, -2, 1])


def cells_needed(own):
    """The rank of the table of the ECHOES behind the first: so many cells it takes."""
    many = len(own[0]) - 1
    heard = values(echoes(own, 2 * many + 1))[1:]
    size = 0
    for k in range(1, many + 1):
        if determinant([[heard[i + j] for j in range(k)] for i in range(k)]) != 0:
            size = k
    return size


class BoxTests(unittest.TestCase):

    def test_is_box(self):
        for good in (SPRING, WIDE, box([0, 1], [1, 0]), box([-5], [1]), box([1] + [0] * 30, [1] * 31),
                     (((10 ** 90, 7),), (ONE,))):
            self.assertIs(is_box(good), True)
        for bad in (box([0, 0], [1, 1]), box([1, 1], [2, 1]), box([1], [1, 1]), box([1, 1], [1]),
                    ((), ()), (SPRING,), SPRING + (ONE,), list(SPRING), (list(SPRING[0]), SPRING[1]),
                    (((1, 1), [1, 1]), SPRING[1]), (((2, 2),), (ONE,)), (((1, 1),), ((True, 1),)),
                    (((True, 1),), (ONE,)), (((1, 0),), (ONE,)), (((0, 2), ONE), (ONE, ONE)), None, 7, "box"):
            self.assertIs(is_box(bad), False)

    def test_beats_by_hand(self):
        chance = random.Random(11)
        for cells in range(6):
            for _ in range(12):
                own = any_box(chance, cells)
                start = row(*[any_fraction(chance) for _ in range(cells)])
                pushes = row(*[any_fraction(chance) for _ in range(7)])
                told, behind = answers_by_hand(own, pushes, start)
                self.assertEqual(run(own, start, pushes), (row(*told), row(*behind)))
                told, behind = answers_by_hand(own, pushes[:1], start)
                self.assertEqual(beat(own, start, pushes[0]), (pair(told[0]), row(*behind)))
                self.assertEqual(run(own, start, ()), ((), start))
                self.assertEqual(rest(own), row(*[0] * cells))
                told, _ = answers_by_hand(own, row(1, 0, 0, 0, 0, 0, 0, 0))
                self.assertEqual(echoes(own, 8), row(*told))
                self.assertEqual(echoes(own, 1), own[0][:1])

    def test_made_small_has_the_fewest_cells(self):
        chance = random.Random(12)
        seen = set()
        for cells in range(6):
            for _ in range(40):
                own = any_box(chance, cells)
                if chance.random() < 0.6 and cells > 0:
                    # A common divisor: z less r, both multiplied by it.
                    low, r = any_box(chance, cells - 1), any_fraction(chance)
                    own = tuple(row(*[a - r * b for a, b in zip(values(part) + [0], [0] + values(part))])
                                for part in low)
                small = made_small(own)
                many = 2 * len(own[0]) + 1
                self.assertTrue(is_small(small))
                self.assertEqual(is_small(own), small == own)
                self.assertEqual(echoes(small, many), echoes(own, many))
                self.assertEqual(len(small[0]) - 1, cells_needed(own))
                self.assertEqual(small[1][0], ONE)
                seen.add(len(own[0]) - len(small[0]))
        self.assertTrue({0, 1, 2} <= seen)

    def test_made_small_of_many_cells(self):
        self.assertEqual(made_small(box([1] + [0] * 12, [1] + [0] * 12)), box([1], [1]))
        long = box([1] * 10, [1] + [0] * 9)
        self.assertEqual(made_small(long), long)

    def test_small_ones_tell_cells_apart(self):
        self.assertEqual(run(WIDE, row(1, 1), row(0, 0, 0))[0], row(0, 0, 0))
        self.assertFalse(is_small(WIDE))
        self.assertEqual(made_small(WIDE), SPRING)

    def test_summed_and_times(self):
        chance = random.Random(13)
        for _ in range(60):
            one, other = any_box(chance, chance.randint(0, 2)), any_box(chance, chance.randint(0, 3))
            f = any_fraction(chance)
            pushes = row(*[any_fraction(chance) for _ in range(9)])
            a, b = answers_by_hand(one, pushes)[0], answers_by_hand(other, pushes)[0]
            try:
                own = summed(one, other)
            except CanNot:
                self.assertEqual(set(values(echoes(one, 8))[i] + values(echoes(other, 8))[i]
                                     for i in range(8)), {0})
                continue
            self.assertEqual(own, summed(other, one))
            self.assertTrue(is_small(own))
            self.assertEqual(run(own, rest(own), pushes)[0], row(*[x + y for x, y in zip(a, b)]))
            if f == 0:
                with self.assertRaises(CanNot):
                    times(one, pair(f))
            else:
                own = times(one, pair(f))
                self.assertTrue(is_small(own))
                self.assertEqual(run(own, rest(own), pushes)[0], row(*[f * x for x in a]))

    def test_late(self):
        chance = random.Random(14)
        for _ in range(60):
            own, k = any_box(chance, chance.randint(0, 3)), chance.randint(0, 2)
            pushes = row(*[any_fraction(chance) for _ in range(9)])
            later = late(own, k)
            told = answers_by_hand(own, pushes)[0]
            self.assertEqual(run(later, rest(later), pushes)[0], row(*([0] * k + told)[:9]))
            self.assertTrue(is_small(later))
            if len(later[0]) + 1 <= 6:
                self.assertEqual(late(later, 1), late(own, k + 1))
        self.assertEqual(late(WIDE, 0), SPRING)
        # Tops that end in 0 make up for a beat: z over z - 2 becomes 1 over z - 2.
        self.assertEqual(late(box([1, 0], [1, -2]), 1), box([0, 1], [1, -2]))
        self.assertEqual(late(box([1, 0, 0, 0, 0, 0], [1, 0, 0, 0, 0, -2]), 5), box([0, 0, 0, 0, 0, 1],
                                                                                  [1, 0, 0, 0, 0, -2]))

    def test_turned(self):
        chance = random.Random(15)
        for _ in range(60):
            own = any_box(chance, chance.randint(0, 4))
            if own[0][0] == O:
                with self.assertRaises(CanNot):
                    turned(own)
                continue
            back = turned(own)
            pushes = row(*[any_fraction(chance) for _ in range(9)])
            told = row(*answers_by_hand(own, pushes)[0])
            self.assertEqual(run(back, rest(back), told)[0], pushes)
            self.assertEqual(turned(back), made_small(own))
            self.assertTrue(is_small(back))

    def test_refusals(self):
        five, six = box([1] * 6, [1] + [0] * 5), box([1] * 7, [1] + [0] * 6)
        self.assertEqual(times(five, TWO), box([2] * 6, [1] + [0] * 5))
        self.assertEqual(len(late(box([1], [1]), 5)[0]), 6)
        for call in (lambda: late(box([1], [1]), 6), lambda: late(SPRING, 10 ** 12), lambda: late(five, 1),
                     lambda: times(six, ONE), lambda: turned(six), lambda: late(six, 0),
                     lambda: summed(five, SPRING)):
            with self.assertRaises(TooMany):
                call()
        # What is not SMALL counts as the SMALL BOX that it comes to.
        self.assertEqual(times(box([2] + [0] * 9, [1] + [0] * 9), HALF), box([1], [1]))
        for call in (lambda: times(SPRING, O), lambda: summed(WIDE, times(SPRING, LESS)),
                     lambda: times(six, O), lambda: turned(late(SPRING, 1)), lambda: summed(six, times(six, O)),
                     lambda: turned(box([0, 1, 0, 0, 0, 0, 1], [1] + [0] * 6))):
            with self.assertRaises(CanNot):
                call()

    def test_great_fractions(self):
        own = box([Fraction(BIG - 1, BIG), Fraction(1, BIG - 3), BIG], [1, Fraction(-BIG, 3), Fraction(7, BIG - 1)])
        told = answers_by_hand(own, row(*[1] + [0] * 39))[0]
        self.assertEqual(echoes(own, 40), row(*told))
        self.assertTrue(is_small(own))
        self.assertEqual(summed(own, times(own, TWO)), times(own, (3, 1)))


if __name__ == "__main__":
    unittest.main()
