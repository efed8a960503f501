"""Point [7]: SLANTS and CURVES."""

import random
import unittest
from fractions import Fraction

from keepcompany.boxes import late, summed, times, turned
from keepcompany.curves import (curve, curve_at, curve_below, curve_of_sum, is_loss_free, parts_of_curve,
                                rim_pair, slants, touches)
from keepcompany.errors import CanNot, TooMany
from keepcompany.keepers import is_keeper
from keepcompany.numbers import common_part, each_once, poly_times, root_spans, roots_between, value_at

from helpers import BIG, HALF, LESS, O, ONE, any_fraction, box, pair, poly, row, value, values
from makers import BORDERS, INNER, KISS, LOST, damper, keeper, loss_free, mass, small_box, spring

TENTHS = [pair(Fraction(k, 10)) for k in range(-10, 11)]


def chebyshev(k, c):
    last, now = Fraction(1), c
    for _ in range(k):
        last, now = now, 2 * c * now - last
    return last


def curve_by_hand(own, c):
    """2 tops bottoms, the one at z and the other at 1 / z, for the cosine c."""
    tops, bottoms = values(own[0]), values(own[1])
    many = len(tops)
    return sum(2 * tops[i] * bottoms[j] * chebyshev(abs(i - j), c) for i in range(many) for j in range(many))


class CurveTests(unittest.TestCase):

    def test_slants_and_curves(self):
        chance = random.Random(41)
        for _ in range(80):
            own = small_box(chance, chance.randint(0, 4))
            told, shape = slants(own), curve(own)
            self.assertEqual(len(told), len(own[0]))
            self.assertTrue(shape == () or shape[-1] != O)
            for place in TENTHS[::5] + [pair(any_fraction(chance, 7, 1) / 7)]:
                c = value(place)
                hand = curve_by_hand(own, c)
                self.assertEqual(value(curve_at(own, place)), hand)
                self.assertEqual(value(value_at(shape, place)), hand)
                by_slants = value(told[0]) + 2 * sum(value(s) * chebyshev(k, c)
                                                     for k, s in enumerate(told) if k > 0)
                self.assertEqual(by_slants, hand)
        great = box([BIG, 1, Fraction(1, BIG)], [1, Fraction(BIG, 7), -BIG])
        self.assertEqual(value(curve_at(great, (BIG - 1, BIG))), curve_by_hand(great, Fraction(BIG - 1, BIG)))

    def test_curves_of_boxes_made_of_boxes(self):
        chance = random.Random(42)
        for _ in range(50):
            own, f = small_box(chance, chance.randint(0, 3)), any_fraction(chance) or Fraction(-2)
            c = chance.choice(TENTHS)
            self.assertEqual(value(curve_at(times(own, pair(f)), c)), f * value(curve_at(own, c)))
            if own[0][0] != O:
                self.assertEqual(value(curve_at(turned(own), c)) * value(own[0][0]) ** 2, value(curve_at(own, c)))
            other = small_box(chance, chance.randint(0, 4))
            half = [curve_by_hand((b[1], b[1]), value(c)) / 2 for b in (own, other)]
            told = curve_of_sum(own, other)
            self.assertEqual(value(value_at(told, c)), value(curve_at(own, c)) * half[1] + value(curve_at(other, c))
                             * half[0])
            try:
                both = summed(own, other)
            except (CanNot, TooMany):
                continue
            if len(both[0]) + 1 == len(own[0]) + len(other[0]):
                self.assertEqual(curve(both), told)

    def test_curve_of_any_sum(self):
        four = box([1, 2, 3, 4, 5], [1, "1/2", "1/3", "1/4", "1/5"])
        other = box([1, 0, 0, 0, 1], [1, 0, 0, "1/7", "1/9"])
        self.assertEqual(len(curve_of_sum(four, other)), 9)
        self.assertEqual(curve_of_sum(four, times(four, LESS)), ())
        self.assertEqual(curve_of_sum(damper(2), damper(-2)), ())
        self.assertEqual(curve_of_sum(four, other), curve_of_sum(other, four))

    def test_below(self):
        chance = random.Random(43)
        seen = [0, 0]
        for _ in range(250):
            own = small_box(chance, chance.randint(0, 4)) if chance.random() < 0.7 else keeper(chance)
            place = curve_below(own)
            if place is None:
                seen[0] += 1
                self.assertTrue(all(curve_by_hand(own, value(c)) >= 0 for c in TENTHS))
                p = curve(own)
                # Nowhere below 0: at the ends of spans of all roots neither.
                for span in root_spans(p, LESS, ONE, (1, 10 ** 6)) if p else ():
                    self.assertTrue(all(curve_by_hand(own, value(c)) >= 0 for c in span))
            else:
                seen[1] += 1
                self.assertTrue(-1 <= value(place) <= 1)
                self.assertLess(curve_by_hand(own, value(place)), 0)
        self.assertTrue(min(seen) > 40)

    def test_below_in_narrow_places(self):
        tiny = Fraction(1, 10 ** 18)
        for own in (box([3 - tiny, -4, 2], [1, 0, 0]), box([1, 1 + tiny], [1, 0]), box([1, -1 - tiny], [1, 0]),
                    box([1 - tiny, 0, 0, 0, 1], [1, 0, 0, 0, 0])):
            self.assertLess(curve_by_hand(own, value(curve_below(own))), 0)
        for own in (KISS, box([3 + tiny, -4, 2], [1, 0, 0]), box([1, 1], [1, 0]), box([1, -1], [1, 0]),
                    box([1, 0, 0, 0, 1], [1, 0, 0, 0, 0]), spring(-3)):
            self.assertIsNone(curve_below(own))

    def test_parts(self):
        chance = random.Random(44)
        told = 0
        for own in [keeper(chance) for _ in range(120)] + BORDERS + INNER:
            p = curve(own)
            if not p:
                for call in (lambda: parts_of_curve(own), lambda: touches(own, HALF)):
                    with self.assertRaises(CanNot):
                        call()
                continue
            self.check_parts(own)
            told += 1
        self.assertTrue(told > 60)
        for own in LOST + [box([1, 3], [1, 0])]:
            if curve(own) == () or curve_below(own) is not None:
                with self.assertRaises(CanNot):
                    parts_of_curve(own)
                with self.assertRaises(CanNot):
                    touches(own, (1, 10 ** 6))

    def check_parts(self, own):
        (x, y), q, s = parts_of_curve(own)
        self.assertTrue(x in (0, 1) and y in (0, 1))
        whole = poly_times(poly_times(q, q), s)
        for factor in [row(1, -1)] * x + [row(1, 1)] * y:
            whole = poly_times(whole, factor)
        self.assertEqual(whole, curve(own))
        self.assertEqual(q[-1], ONE)
        self.assertEqual(common_part(s, row(-1, 0, 1)), row(1))
        self.assertEqual(each_once(s) if s[-1] else (), common_part(s, each_once(s)))
        self.assertEqual(len(each_once(s)), len(s))
        self.assertTrue(value(value_at(s, LESS)) > 0 and value(value_at(s, ONE)) > 0)
        self.assertEqual(roots_between(s, LESS, ONE), 0)
        spans = touches(own, (1, 100))
        self.assertEqual(len(spans), roots_between(q, LESS, ONE))
        for l, r in spans:
            self.assertTrue(-1 < value(l) <= value(r) < 1 and value(r) - value(l) <= Fraction(1, 100))
            self.assertEqual(value_at(q, l) == O, l == r)
            self.assertTrue(l == r or roots_between(q, l, r) == 1)

    def test_parts_that_are_known(self):
        self.assertEqual(parts_of_curve(box([1, 0, 0, 1], [1, 0, 0, 0])),
                         ((0, 1), poly([("-1/2", 1)]), row(8)))
        # 2 + 2 cos 4 t is 4 (2 c c - 1) (2 c c - 1): it touches where c is no FRACTION.
        own = box([1, 0, 0, 0, 1], [1, 0, 0, 0, 0])
        self.assertEqual(parts_of_curve(own), ((0, 0), row("-1/2", 0, 1), row(16)))
        self.assertEqual(len(touches(own, (1, 10 ** 6))), 2)
        # 2 - 2 cos 4 t is 16 c c (1 - c c).
        own = box([1, 0, 0, 0, -1], [1, 0, 0, 0, 0])
        self.assertEqual(parts_of_curve(own), ((1, 1), row(0, 1), row(16)))
        self.assertEqual(touches(own, ONE), root_spans(row(0, 1), LESS, ONE, ONE))
        # (1 + c) (1 + c): the end -1 is touched, but not strictly between.
        own = box(["3/4", 1, "1/4"], [1, 0, 0])
        self.assertEqual(parts_of_curve(own), ((0, 0), row(1, 1), row(1)))
        self.assertEqual(touches(own, ONE), ())
        # (1 + c) (1 + c) (1 + c)
        own = box(["5/4", "15/8", "3/4", "1/8"], [1, 0, 0, 0])
        self.assertEqual(parts_of_curve(own), ((0, 1), row(1, 1), row(1)))

    def test_loss_free(self):
        chance = random.Random(45)
        for _ in range(60):
            own, other = loss_free(chance), loss_free(chance)
            self.assertIs(is_loss_free(own), True)
            self.assertEqual(curve(own), ())
            self.assertIs(is_loss_free(turned(own)), True)
            self.assertIs(is_loss_free(times(own, (3, 7))), True)
            self.assertIs(is_loss_free(times(own, (-3, 7))), False)
            try:
                self.assertIs(is_loss_free(summed(own, other)), True)
                self.assertIs(is_loss_free(summed(own, damper("1/1000000"))), False)
            except TooMany:
                pass
        for own in (damper(1), KISS, spring(-1), summed(spring(-1), mass(2)), late(damper(1), 1)):
            self.assertIs(is_loss_free(own), False)

    def test_rim_pairs(self):
        for c in (O, HALF, (-1, 2), (-9, 10), (BIG - 1, BIG), (1 - BIG, BIG)):
            own = rim_pair(c)
            self.assertEqual(own, box([1, 0, -1], [1, -2 * value(c), 1]))
            self.assertTrue(is_keeper(own) and is_loss_free(own))


if __name__ == "__main__":
    unittest.main()
