"""Point [10]: PARTS, what a BOX is at a point, and PAIRS there."""

import random
import unittest
from fractions import Fraction

from keepcompany.boxes import is_small, summed, times, turned
from keepcompany.errors import CanNot, Unfit
from keepcompany.keepers import is_keeper
from keepcompany.parts import (edge_of, in_sector, is_part, pair_at, part_box, part_store, part_work, parts_box,
                               spring_and_mass, tone)
from keepcompany.stores import is_store, loss_free_store

from complexes import Point, is_pair_by_hand, point_of, tone_by_hand
from helpers import BIG, HALF, LESS, O, ONE, TWO, any_fraction, box, pair, row, value, work_by_hand
from makers import BORDERS, INNER, LOST, damper, keeper, mass, small_box, some_amount, spring

MADE = {"damper": damper, "spring": spring, "mass": mass}
POINTS = [(Fraction(a, 4), Fraction(b, 4)) for a in range(-9, 10) for b in range(0, 10)]
OUTER = [own for own in POINTS if own[0] ** 2 + own[1] ** 2 > 1]


def some_part(chance):
    return chance.choice(("damper", "spring", "mass")), pair(some_amount(chance))


class PartTests(unittest.TestCase):

    def test_what_is_a_part(self):
        for kind in MADE:
            for amount in (ONE, HALF, (BIG, 1), (1, BIG), (10 ** 60, 7)):
                self.assertIs(is_part((kind, amount)), True)
            for amount in (O, LESS, (-1, BIG), (2, 4), 1, [1, 1], (1, 0), (True, 1), (1, True), None, ()):
                self.assertIs(is_part((kind, amount)), False)
        for wrong in (("rod", ONE), ("Mass", ONE), ("mass",), ("mass", ONE, ONE), ["mass", ONE], (ONE, "mass"), "mass",
                      None, True, 3, (), ("", ONE), (b"mass", ONE), (["mass"], ONE), (("mass",), ONE)):
            self.assertIs(is_part(wrong), False)

    def test_boxes_and_stores_of_each_kind(self):
        for amount in (Fraction(1), Fraction(2, 7), Fraction(BIG), Fraction(1, BIG), Fraction(10 ** 50, 3)):
            for kind, made in MADE.items():
                part = (kind, pair(amount))
                self.assertEqual(part_box(part), made(amount))
                stored = () if kind == "damper" else ((pair(2 * amount),),)
                self.assertEqual(part_store(part), stored)
                self.assertTrue(is_keeper(part_box(part)))
                self.assertIs(is_store(part_box(part), stored), True)
                if kind != "damper":
                    self.assertEqual(loss_free_store(part_box(part)), stored)

    def test_work_beside_the_beats(self):
        chance = random.Random(101)
        for _ in range(60):
            kind, amount = some_part(chance)
            pushes = [any_fraction(chance) for _ in range(chance.randint(0, 9))]
            told = value(part_work((kind, amount), row(*pushes)))
            self.assertEqual(told, work_by_hand(MADE[kind](value(amount)), row(*pushes)))
            by_turns = sum(own * (-1) ** k for k, own in enumerate(reversed(pushes)))
            known = {"damper": sum(own ** 2 for own in pushes), "spring": sum(pushes) ** 2, "mass": by_turns ** 2}
            self.assertEqual(told, value(amount) * known[kind])
        self.assertEqual(part_work(("mass", ONE), ()), O)
        self.assertEqual(part_work(("spring", (1, BIG)), row(*[BIG] * 40)), (1600 * BIG, 1))

    def test_sums_of_parts(self):
        chance = random.Random(102)
        for _ in range(60):
            parts = tuple(some_part(chance) for _ in range(chance.randint(1, 6)))
            out = None
            for kind, amount in parts:
                own = MADE[kind](value(amount))
                out = own if out is None else summed(out, own)
            self.assertEqual(parts_box(parts), out)
            self.assertEqual(parts_box(tuple(reversed(parts))), out)
            self.assertTrue(is_small(out))
        self.assertEqual(parts_box((("mass", HALF),) * 50), mass(25))
        self.assertEqual(parts_box((("damper", HALF), ("damper", (1, 3)))), damper("5/6"))
        self.assertEqual(parts_box((("spring", HALF), ("mass", HALF), ("damper", ONE))), box([2, 0, 0], [1, 0, -1]))
        with self.assertRaises(Unfit):
            parts_box(())

    def test_spring_and_mass(self):
        chance = random.Random(103)
        for _ in range(40):
            p, q = some_amount(chance), some_amount(chance)
            self.assertEqual(spring_and_mass(pair(p), pair(q)), summed(spring(p), mass(q)))
            self.assertEqual(spring_and_mass(pair(p), pair(q)), box([p + q, 2 * p - 2 * q, p + q], [1, 0, -1]))
            self.assertEqual(spring_and_mass(pair(p), O), spring(p))
            self.assertEqual(spring_and_mass(O, pair(q)), mass(q))
        with self.assertRaises(CanNot):
            spring_and_mass(O, O)
        for p, q in ((LESS, ONE), (ONE, LESS), ((-1, BIG), O), (O, (-1, BIG)), (O, (0, 2))):
            with self.assertRaises(Unfit):
                spring_and_mass(p, q)

    def test_tone(self):
        chance = random.Random(104)
        nones = 0
        for _ in range(120):
            own = small_box(chance, chance.randint(0, 4))
            a, b = chance.choice(POINTS)
            b = chance.choice((b, -b))
            told = tone(own, pair(a), pair(b))
            wanted = tone_by_hand(own, Point(a, b))
            nones += wanted is None
            self.assertEqual(None if told is None else point_of(told), wanted)
        self.assertIsNone(tone(box([1, 0, 0], [1, 0, 4]), O, TWO))
        self.assertIsNone(tone(box([1, 0, 0], [1, 0, 4]), O, (-2, 1)))
        self.assertIsNone(tone(spring(1), ONE, O))
        self.assertEqual(tone(spring(1), LESS, O), (O, O))
        self.assertEqual(tone(damper("1/3"), (BIG, 1), (1, BIG)), ((1, 3), O))
        self.assertEqual(tone(box([0, 1], [1, 0]), O, O), None)
        self.assertEqual(tone(box([0, 1], [1, 0]), (BIG, 1), O), ((1, BIG), O))

    def test_edges(self):
        for a, b in POINTS:
            for up in (b, -b):
                if (a, up) == (1, 0):
                    continue
                z = Point(a, up)
                self.assertEqual(point_of(edge_of(pair(a), pair(up))), z.plus(1).over(z.plus(-1)))
        with self.assertRaises(CanNot):
            edge_of(ONE, O)
        self.assertEqual(edge_of(ONE, (1, BIG)), (ONE, (-2 * BIG, 1)))
        self.assertEqual(edge_of(LESS, O), (O, O))

    def test_sectors(self):
        for a, b in OUTER:
            if b == 0:
                continue
            edge = point_of(edge_of(pair(a), pair(b)))
            other = Point(1, 0).over(edge)
            for p in (0, Fraction(1, 3), 5):
                for q in (0, 2, Fraction(7, 2)):
                    w = edge.times(p).add(other.times(q))
                    self.assertIs(in_sector(pair(a), pair(b), pair(w.a), pair(w.b)), True)
                    if (p, q) != (0, 0):
                        self.assertIs(in_sector(pair(a), pair(b), pair(-w.a), pair(-w.b)), False)
            for own, far in ((edge, other), (other, edge)):
                w = own.add(far.times(Fraction(-1, 10 ** 20)))
                self.assertIs(in_sector(pair(a), pair(b), pair(w.a), pair(w.b)), False)
            self.assertIs(in_sector(pair(a), pair(b), (1, BIG), O), True)
            self.assertIs(in_sector(pair(a), pair(b), (-1, BIG), O), False)
        for a, b in ((TWO, O), (TWO, LESS), (HALF, HALF), ((3, 5), (4, 5)), (O, ONE), ((-3, 1), (-1, BIG)), (O, O)):
            for x, y in ((O, O), (ONE, ONE)):
                with self.assertRaises(CanNot):
                    in_sector(a, b, x, y)
        self.assertIs(in_sector(O, (BIG + 1, BIG), ONE, O), True)

    def test_keepers_lie_in_the_sector(self):
        chance = random.Random(105)
        owns = [keeper(chance) for _ in range(40)] + BORDERS + INNER
        for own in owns:
            for a, b in chance.sample(OUTER, 25):
                told = tone(own, pair(a), pair(b))
                self.assertIsNone(pair_at(own, pair(a), pair(b)))
                if b > 0:
                    self.assertIs(in_sector(pair(a), pair(b), *told), True)
                else:
                    self.assertGreater(value(told[0]), 0)

    def test_pairs_at_points(self):
        chance = random.Random(106)
        seen = [0, 0, 0]
        for _ in range(60):
            own = small_box(chance, chance.randint(0, 4)) if chance.random() < 0.8 else chance.choice(LOST)
            for a, b in chance.sample(OUTER, 20):
                told = pair_at(own, pair(a), pair(b))
                if told is None:
                    seen[0] += 1
                    self.check_none(own, a, b)
                    continue
                seen[1 + (b == 0)] += 1
                self.assertFalse(is_keeper(own))
                self.assertTrue(is_pair_by_hand(own, told + (pair(a), pair(b))), (own, a, b))
                if b == 0:
                    self.assertEqual([O in told, told.count(O)], [True, 1])
        self.assertTrue(min(seen) > 20, seen)

    def check_none(self, own, a, b):
        """What all amounts come to misses what they would have to."""
        at = tone_by_hand(own, Point(a, b))
        if at is None or (at.a, at.b) == (0, 0):
            return
        w = Point(-1, 0).over(at)
        if b == 0:
            self.assertLess(w.a, 0)
        elif in_sector(pair(a), pair(b), pair(w.a), pair(w.b)):
            # STUCK, the one reason that is left.
            edge = point_of(edge_of(pair(a), pair(b)))
            p, q = solved_by_hand(edge, Point(1, 0).over(edge), w)
            self.assertEqual(1 + value(own[0][0]) * (p + q), 0)

    def test_no_pairs_at_zeros(self):
        for own, a, b in ((box([1, 2], [1, 0]), "-2", 0), (box([-1, 2], [1, 0]), 2, 0), (box([1, 0, 4], [1, 0, 0]), 0, 2),
                          (box([-1, 0, -4], [1, 0, 0]), 0, 2), (box([1, 0], [1, -2]), 2, 0), (box([0, -1], [1, 2]), -2, 0),
                          (box([1, 0, 0], [1, -2, 2]), 1, 1), (box([0, 0, -1], [1, -2, 2]), 1, 1)):
            self.assertIsNone(pair_at(own, pair(Fraction(a)), pair(b)))

    def test_no_pairs_within_and_stuck_ones(self):
        twice = box([0, 0, 1], [1, 0, 0])
        self.assertEqual(pair_at(twice, O, TWO), ((10, 3), (10, 3)))
        for a, b in ((O, ONE), ((3, 5), (4, 5)), (O, HALF), (ONE, O), (O, O), (LESS, O)):
            self.assertIsNone(pair_at(damper(-1), a, b))
            self.assertIsNone(pair_at(twice, a, b))
        # With -1 times a spring each mixture that would do is that spring alone, which is STUCK.
        self.assertIsNone(pair_at(spring(-1), ONE, ONE))
        # Of the two that would do, a spring of 1 / 9 and a mass of 1, one is STUCK.
        self.assertEqual(pair_at(spring(-1), TWO, O), ((1, 9), O))
        self.assertEqual(pair_at(mass(-1), TWO, O), (O, (9, 1)))
        self.assertEqual(pair_at(mass(-1), (-2, 1), O), (O, (1, 9)))
        self.assertIsNone(pair_at(times(turned(summed(spring(1), mass(1))), LESS), ONE, ONE))
        for a, b in ((ONE, LESS), (TWO, (-1, BIG)), (TWO, (0, 2)), (2, O)):
            with self.assertRaises(Unfit):
                pair_at(twice, a, b)
        great = damper(-BIG)
        self.assertTrue(is_pair_by_hand(great, pair_at(great, (BIG, 3), (1, BIG)) + ((BIG, 3), (1, BIG))))


def solved_by_hand(edge, other, w):
    turn = edge.a * other.b - edge.b * other.a
    return (w.a * other.b - w.b * other.a) / turn, (edge.a * w.b - edge.b * w.a) / turn


if __name__ == "__main__":
    unittest.main()
