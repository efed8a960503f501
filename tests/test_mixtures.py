"""Point [17]: BOXES mixed, and crowds of them."""

import random
import unittest
from fractions import Fraction
from itertools import combinations

from keepcompany.boxes import late, made_small, summed, times
from keepcompany.curves import rim_pair
from keepcompany.errors import CanNot, NoPaper, TooMany, Unfit
from keepcompany.keepers import is_keeper
from keepcompany.mixtures import (crowd, damper_for_all, failing_lot, is_keep_span, keep_span, least_lots, lots_that_keep,
                                  mixed, pairs_that_keep, spoilers)

from helpers import BIG, HALF, LESS, O, ONE, TWO, any_fraction, box, pair, row, value, values
from makers import BORDERS, HELPED, INNER, LOST, damper, keeper, less_damper, mass, small_box, spring

RUB, PUSH = damper(2), damper(-1)
LAG, BACK = box([0, 1], [1, 0]), box([0, -1], [1, 0])
GROW = box([1, 0], [1, -2])
WIDE = box([1, 0, 0, 2], [1, 0, 0, "1/3"])
WIDTHS = (Fraction(1), Fraction(1, 3), Fraction(1, 10 ** 6))


def mixed_by_hand(one, other, k):
    """Both answers on one bottom; None if they come to nothing."""
    def times_row(p, q):
        out = [Fraction(0)] * (len(p) + len(q) - 1)
        for i, a in enumerate(values(p)):
            for j, b in enumerate(values(q)):
                out[i + j] += a * b
        return out

    tops = [a + k * b for a, b in zip(times_row(one[0], other[1]), times_row(one[1], other[0]))]
    return made_small(box(tops, times_row(one[1], other[1]))) if any(tops) else None


def keeps_by_hand(found, e=Fraction(0)):
    """Whether what was found, None for nothing, keeps with the damper e."""
    if found is None:
        return e >= 0
    left = less_damper(found, -e)
    return left is None or is_keeper(left)


def all_lots(many):
    return sorted(lot for size in range(1, many + 1) for lot in combinations(range(many), size))


def some_box(chance):
    kind = chance.random()
    if kind < 0.4:
        return small_box(chance, chance.randint(0, 3))
    if kind < 0.8:
        return keeper(chance)
    return chance.choice(BORDERS + INNER + LOST + [own for own, _ in HELPED])


def some_crowd(chance, most):
    return tuple(chance.choice((small_box(chance, chance.randint(0, 1)), damper(chance.choice((1, -1, "1/2"))),
                                spring(chance.choice((1, -1))), mass(1), LAG, BACK, box([0, 3], [1, 0])))
                 for _ in range(chance.randint(1, most)))


class MixtureTests(unittest.TestCase):

    def test_mixed(self):
        chance = random.Random(171)
        seen = [0, 0, 0]
        for _ in range(120):
            one, other, k = some_box(chance), some_box(chance), any_fraction(chance)
            if chance.random() < 0.2:
                one, k = times(other, pair(-k) if k else ONE), (k if k else Fraction(-1))
            wanted = mixed_by_hand(one, other, k)
            if wanted is None or len(wanted[0]) > 6:
                seen[wanted is None] += 1
                with self.assertRaises(CanNot if wanted is None else TooMany):
                    mixed(one, other, pair(k))
                continue
            seen[2] += 1
            self.assertEqual(mixed(one, other, pair(k)), wanted)
        self.assertTrue(min(seen) > 5, seen)
        self.assertEqual(mixed(WIDE, WIDE, O), WIDE)
        self.assertEqual(mixed(WIDE, WIDE, ONE), times(WIDE, TWO))
        self.assertEqual(mixed(RUB, PUSH, pair(2 - Fraction(1, BIG))), (((1, BIG),), (ONE,)))
        with self.assertRaises(CanNot):
            mixed(RUB, PUSH, TWO)
        with self.assertRaises(TooMany):
            mixed(WIDE, box([1, 0, 0, 2], [1, 0, 0, 0]), (1, BIG))

    def test_spans_of_known_mixtures(self):
        for one, other, most in ((RUB, LAG, 2), (RUB, PUSH, 2), (spring(1), LAG, 0), (spring(1), PUSH, 0), (mass(3), mass(-1), 3),
                                 (damper(1), late(damper(-1), 4), 1), (damper("1/7"), LAG, "1/7"), (damper(2 ** 20 - 1), PUSH, 2 ** 20 - 1),
                                 (rim_pair((1, 3)), LAG, 0), (spring(5), GROW, 0)):
            most = Fraction(most)
            for width in WIDTHS:
                low, high = values(keep_span(one, other, pair(width)))
                self.assertTrue(0 <= low <= most < high <= low + width)
                self.assertIs(is_keep_span(one, other, pair(low), pair(high)), True)
            self.assertIs(is_keep_span(one, other, pair(most), pair(most + Fraction(1, BIG))), True)
            self.assertIs(is_keep_span(one, other, O, pair(most + 10 ** 9)), True)
            for start, end in ((most + 1, most + 2), (most, most), (0, most), (most + 1, most), (-1, most + 1)):
                self.assertIs(is_keep_span(one, other, pair(start), pair(end)), False)

    def test_spans(self):
        chance = random.Random(172)
        seen = {}
        for _ in range(150):
            one, other, width = some_box(chance), some_box(chance), chance.choice(WIDTHS)
            many = len(one[0]) + len(other[0]) - 2
            kind = self.judge_span(one, other, width, many)
            seen[kind] = seen.get(kind, 0) + 1
        self.assertTrue(len(seen) == 4 and min(seen.values()) > 5, seen)
        for second in (PUSH, RUB):
            for first in (PUSH, LAG, GROW):
                with self.assertRaises(CanNot):
                    keep_span(first, second, ONE)
        # GIVERS are refused first, then what is too wide, then KEEPERS have no end.
        for given, wrong in (((times(WIDE, LESS), WIDE), CanNot), ((late(damper(1), 3), late(RUB, 3)), CanNot),
                             ((box([3, 0, 0, 1], [1, 0, 0, 0]), box([3, 0, 0, 1], [1, 0, 0, 0])), TooMany)):
            with self.assertRaises(wrong):
                keep_span(*given, ONE)
        for first in (damper(2 ** 20), damper(BIG)):
            with self.assertRaises(TooMany):
                keep_span(first, PUSH, ONE)
        for width in (O, TWO, LESS, (1, 10 ** 6 + 1), 1):
            for first in (PUSH, RUB):
                with self.assertRaises(Unfit):
                    keep_span(first, LAG, width)

    def judge_span(self, one, other, width, many):
        if not is_keeper(one):
            with self.assertRaises(CanNot):
                keep_span(one, other, pair(width))
            self.judge_low_and_high(one, other, many)
            return "giver"
        if many > 5:
            for call in (lambda: keep_span(one, other, pair(width)), lambda: is_keep_span(one, other, ONE, TWO),
                         lambda: is_keep_span(one, other, LESS, TWO), lambda: is_keep_span(one, other, ONE, O)):
                with self.assertRaises(TooMany):
                    call()
            return "wide"
        if is_keeper(other):
            self.assertIsNone(keep_span(one, other, pair(width)))
            return "keeper"
        low, high = values(keep_span(one, other, pair(width)))
        self.assertTrue(0 <= low < high <= low + width)
        self.assertTrue(keeps_by_hand(mixed_by_hand(one, other, low)))
        self.assertFalse(keeps_by_hand(mixed_by_hand(one, other, high)))
        self.judge_low_and_high(one, other, many)
        return "span"

    def judge_low_and_high(self, one, other, many):
        if many > 5:
            return
        for low, high in ((0, 1), (1, 2), (2, 1), (-1, 1), (Fraction(1, 2), 10 ** 9), (0, 0)):
            wanted = (0 <= low < high and keeps_by_hand(mixed_by_hand(one, other, low))
                      and not keeps_by_hand(mixed_by_hand(one, other, high)))
            self.assertIs(is_keep_span(one, other, pair(low), pair(high)), wanted)

    def test_spans_of_givers(self):
        # GROW and -1 times it: mixed by 1 they answer nothing, and keep.
        self.assertIs(is_keep_span(GROW, times(GROW, LESS), ONE, TWO), True)
        self.assertIs(is_keep_span(GROW, times(GROW, LESS), HALF, TWO), False)
        self.assertIs(is_keep_span(PUSH, PUSH, O, ONE), False)
        self.assertIs(is_keep_span(PUSH, RUB, HALF, ONE), False)

    def test_crowds(self):
        chance = random.Random(173)
        for _ in range(80):
            boxes = some_crowd(chance, 6)
            wanted = crowd_of_lot(boxes, range(len(boxes)))
            if wanted is None:
                with self.assertRaises(CanNot):
                    crowd(boxes)
            elif len(wanted[0]) > 6:
                with self.assertRaises(TooMany):
                    crowd(boxes)
            else:
                self.assertEqual(crowd(boxes), wanted)
        self.assertEqual(crowd((WIDE,)), WIDE)
        self.assertEqual(crowd((LAG, BACK, RUB)), RUB)
        self.assertEqual(crowd((RUB, LAG, BACK)), RUB)
        self.assertEqual(crowd((WIDE,) * 6), times(WIDE, (6, 1)))
        # More cells on the way than at the end.
        five = box([1, 0, 0, 0, 0, 1], [1, 0, 0, 0, 0, 2])
        self.assertEqual(crowd((five, GROW, times(five, LESS))), GROW)
        for boxes in ((LAG, BACK), (PUSH, damper(1)), (five, times(five, LESS))):
            with self.assertRaises(CanNot):
                crowd(boxes)
        with self.assertRaises(TooMany):
            crowd((five, GROW))

    def test_lots_beside_all_lots(self):
        chance = random.Random(174)
        wide = 0
        for _ in range(60):
            boxes = some_crowd(chance, 5)
            crowds = {lot: crowd_of_lot(boxes, lot) for lot in all_lots(len(boxes))}
            if any(found is not None and len(found[0]) > 6 for found in crowds.values()):
                wide += 1
                self.judge_wide(boxes)
                continue
            kept = [lot for lot in crowds if keeps_by_hand(crowds[lot])]
            self.assertEqual(lots_that_keep(boxes), kept)
            self.assertEqual(least_lots(boxes), [lot for lot in kept if not any(set(one) < set(lot) for one in kept)])
            self.assertEqual(pairs_that_keep(boxes), [lot for lot in kept if len(lot) == 2])
            self.judge_spoilers(boxes, crowds)
            self.judge_dampers(boxes, crowds, chance)
        six = (RUB, LAG, BACK, PUSH, damper("1/2"), box([0, 2], [1, 0]))
        crowds = {lot: crowd_of_lot(six, lot) for lot in all_lots(6)}
        self.assertEqual(len(crowds), 63)
        self.assertEqual(lots_that_keep(six), [lot for lot in crowds if keeps_by_hand(crowds[lot])])
        self.judge_spoilers(six, crowds)
        self.judge_dampers(six, crowds, chance)

    def judge_wide(self, boxes):
        for call in (lambda: lots_that_keep(boxes), lambda: least_lots(boxes), lambda: damper_for_all(boxes, ONE),
                     lambda: failing_lot(boxes, O), lambda: failing_lot(boxes, (BIG, 1))):
            with self.assertRaises(TooMany):
                call()

    def judge_spoilers(self, boxes, crowds):
        whole = tuple(range(len(boxes)))
        wanted = ()
        if len(boxes) > 1 and not keeps_by_hand(crowds[whole]):
            wanted = tuple(k for k in whole if keeps_by_hand(crowds[tuple(j for j in whole if j != k)]))
        self.assertEqual(spoilers(boxes), wanted)

    def judge_dampers(self, boxes, crowds, chance):
        width = chance.choice(WIDTHS)
        told = damper_for_all(boxes, pair(width))
        if all(keeps_by_hand(found) for found in crowds.values()):
            self.assertEqual(told, (O, O))
        elif told is None:
            self.assertFalse(all(keeps_by_hand(found, Fraction(10 ** 15)) for found in crowds.values()))
        else:
            low, high = values(told)
            self.assertTrue(0 <= low < high <= low + width)
            self.assertTrue(all(keeps_by_hand(found, high) for found in crowds.values()))
            self.assertFalse(all(keeps_by_hand(found, low) for found in crowds.values()))
        for e in (Fraction(0), Fraction(1, 2), Fraction(-1, 3), Fraction(4)):
            failing = [lot for lot in crowds if not keeps_by_hand(crowds[lot], e)]
            if failing:
                self.assertIn(failing_lot(boxes, pair(e)), failing)
            else:
                with self.assertRaises(NoPaper):
                    failing_lot(boxes, pair(e))

    def test_known_crowds(self):
        self.assertEqual(lots_that_keep((LAG,)), [])
        self.assertEqual(least_lots((LAG, BACK)), [(0, 1)])
        self.assertEqual(lots_that_keep((LAG, BACK, RUB)), [(0, 1), (0, 1, 2), (0, 2), (1, 2), (2,)])
        self.assertEqual(pairs_that_keep((RUB,)), [])
        half = box([0, "1/2"], [1, 0])
        self.assertEqual(least_lots((LAG, BACK, half, half)), [(0, 1), (1, 2, 3)])
        self.assertEqual(spoilers((PUSH,)), ())
        self.assertEqual(spoilers((RUB, box([0, 3], [1, 0]), PUSH)), (1,))
        self.assertEqual(spoilers((RUB, RUB, PUSH)), ())
        # What is left adds up to nothing, and so keeps.
        self.assertEqual(spoilers((LAG, RUB, PUSH, PUSH)), (0, 2, 3))
        self.assertEqual(spoilers((LAG, BACK, PUSH)), (2,))
        for boxes, least in (((LAG, LAG), 2), ((PUSH, RUB), 1), ((LAG, BACK), 1), ((RUB, box([0, 5], [1, 0])), 5)):
            for width in WIDTHS:
                low, high = values(damper_for_all(boxes, pair(width)))
                self.assertTrue(0 <= low <= least <= high <= low + width)
            with self.assertRaises(NoPaper):
                failing_lot(boxes, pair(least))
            self.assertIn(failing_lot(boxes, pair(least - Fraction(1, BIG))), all_lots(2))
        for boxes in ((RUB, GROW), (spring(-1),), (GROW, times(GROW, LESS))):
            self.assertIsNone(damper_for_all(boxes, ONE))
            self.assertIn(failing_lot(boxes, (10 ** 9, 1)), all_lots(len(boxes)))
        self.assertEqual(damper_for_all((RUB, spring(1), mass(2)), (1, 10 ** 6)), (O, O))
        self.assertEqual(failing_lot((RUB,), (-3, 1)), (0,))
        with self.assertRaises(NoPaper):
            failing_lot((RUB,), (-2, 1))

    def test_too_many_just_where_it_must_come(self):
        three = [box([2, 0, 0, 1], [1, 0, 0, own]) for own in ("1/3", "1/5", "1/7")]
        for boxes in ((three[0], three[1]), (three[0], RUB, three[1])):
            self.judge_wide(boxes)
            with self.assertRaises(TooMany):
                pairs_that_keep(boxes)
            with self.assertRaises(TooMany):
                spoilers(boxes)
            with self.assertRaises(TooMany):
                crowd(boxes)
        # In all and in all but one, not in others: two of these four stand on one bottom.
        twin = times(three[0], LESS)
        self.assertEqual(spoilers((three[0], twin)), ())
        self.assertEqual(spoilers((three[0], PUSH)), ())
        with self.assertRaises(TooMany):
            spoilers((three[0], twin, three[1]))
        for boxes in ((three[0], three[1], twin),):
            with self.assertRaises(TooMany):
                lots_that_keep(boxes)
            self.assertEqual(crowd(boxes), three[1])
        # Just 5 cells are not too many.
        just = (box([2, 0, 0], [1, 0, "1/2"]), three[0])
        self.assertEqual(len(crowd(just)[0]), 6)
        self.assertEqual(pairs_that_keep(just), [(0, 1)])
        self.assertEqual(lots_that_keep(just), [(0,), (0, 1), (1,)])
        self.assertEqual(spoilers(just), ())
        self.assertEqual(damper_for_all(just, ONE), (O, O))
        # Each two do well, all together are too wide.
        ones = tuple(box([1, 0, 0], [1, 0, own]) for own in ("1/2", "1/3", "1/5"))
        self.assertEqual(len(pairs_that_keep(ones)), 3)
        for call in (lambda: lots_that_keep(ones), lambda: least_lots(ones), lambda: spoilers(ones),
                     lambda: damper_for_all(ones, ONE), lambda: failing_lot(ones, O), lambda: crowd(ones)):
            with self.assertRaises(TooMany):
                call()

    def test_wrong_crowds(self):
        for boxes in ((), None, 5, RUB, (RUB,) * 7, (RUB, None), (RUB, (ONE,)), (box([1, 0, -1], [1, -2, 1]),), "ab"):
            for call in (lambda: crowd(boxes), lambda: lots_that_keep(boxes), lambda: least_lots(boxes),
                         lambda: pairs_that_keep(boxes), lambda: spoilers(boxes), lambda: damper_for_all(boxes, ONE),
                         lambda: failing_lot(boxes, O)):
                with self.assertRaises(Unfit):
                    call()
        for width in (O, TWO, (1, 10 ** 6 + 1), 1):
            with self.assertRaises(Unfit):
                damper_for_all((RUB,), width)

    def test_great_numbers(self):
        tiny = Fraction(1, BIG)
        boxes = (damper(tiny), box([0, tiny], [1, 0]), box([0, -tiny], [1, 0]), spring(BIG))
        self.assertEqual(lots_that_keep(boxes), [(0,), (0, 1), (0, 1, 2), (0, 1, 2, 3), (0, 1, 3), (0, 2), (0, 2, 3), (0, 3),
                                                 (1, 2), (1, 2, 3), (3,)])
        self.assertEqual(crowd(boxes), summed(spring(BIG), damper(tiny)))
        self.assertEqual(values(damper_for_all(boxes, (1, 10 ** 6)))[0], 0)
        with self.assertRaises(NoPaper):
            failing_lot(boxes, pair(tiny))
        self.assertIn(failing_lot(boxes, pair(tiny - tiny * tiny)), [(1,), (2,), (1, 3), (2, 3)])


def crowd_of_lot(boxes, lot):
    """The crowd at lot, which may come to nothing on the way."""
    out = None
    for k in lot:
        out = boxes[k] if out is None else mixed_by_hand(out, boxes[k], 1)
    return out


if __name__ == "__main__":
    unittest.main()
