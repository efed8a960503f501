"""Point [16]: SHARES of dampers, and what stands them."""

import random
import unittest
from fractions import Fraction

from keepcompany.boxes import late, summed, times, turned
from keepcompany.curves import rim_pair
from keepcompany.errors import CanNot, NoPaper, Stuck, TooMany, Unfit
from keepcompany.keepers import is_keeper
from keepcompany.loops import is_stuck, loop, runs_away
from keepcompany.numbers import poly_parted
from keepcompany.parts import parts_box
from keepcompany.shares import (inner_share, is_pair_of_share, is_share, keeps_with_share, least_damper, pair_of_share,
                                safe_from, share, share_of_sum, share_papers, with_damper)

from complexes import is_pair_by_hand
from helpers import (BIG, HALF, LESS, O, ONE, TWO, any_fraction, box, is_store_by_hand, pair, row, value, values)
from makers import BORDERS, HELPED, INNER, LOST, damper, keeper, less_damper, loss_free, mass, small_box, spring

LAG = box([0, 1], [1, 0])
PUSH = damper(-1)
GROW = box([1, 0], [1, -2])
SOFT = box([1, "1/2"], [1, "1/3"])
WIDTHS = (Fraction(1), Fraction(1, 3), Fraction(1, 10 ** 6))
# The greatest SHARE of each.
KNOWN = [(damper(2), 2), (damper(-3), -3), (LAG, -1), (box([1, 3], [1, 0]), -2), (box([1, 0], [1, "1/2"]), "2/3"),
         (spring(1), 0), (box([1, 0], [1, -1]), "1/2"), (summed(rim_pair((1, 3)), damper("5/7")), "5/7"),
         (box([2, 0, 0, 1], [1, 0, 0, 0]), 1), (damper(Fraction(1, BIG)), Fraction(1, BIG)), (damper(-10 ** 9), -10 ** 9)]


def share_by_hand(own, e):
    """Whether e is a SHARE: what is left is a KEEPER, or nothing."""
    left = less_damper(own, Fraction(e))
    return left is None or is_keeper(left)


def some_box(chance):
    kind = chance.random()
    if kind < 0.5:
        return small_box(chance, chance.randint(0, 4))
    if kind < 0.8:
        return keeper(chance)
    return chance.choice(BORDERS + INNER + LOST + [own for own, _ in HELPED])


def with_share(chance, e):
    """A KEEPER that has the SHARE e: a KEEPER, and a damper e."""
    own = keeper(chance)
    return (row(*[a + e * b for a, b in zip(values(own[0]), values(own[1]))]), own[1])


class ShareTests(unittest.TestCase):

    def test_with_dampers(self):
        chance = random.Random(161)
        for _ in range(50):
            own, e = some_box(chance), any_fraction(chance)
            tops = [a + e * b for a, b in zip(values(own[0]), values(own[1]))]
            if any(tops):
                self.assertEqual(with_damper(own, pair(e)), (row(*tops), own[1]))
            else:
                with self.assertRaises(CanNot):
                    with_damper(own, pair(e))
        self.assertEqual(with_damper(LAG, O), LAG)
        for own, e in ((damper(2), (-2, 1)), (damper(Fraction(-1, BIG)), (1, BIG))):
            with self.assertRaises(CanNot):
                with_damper(own, e)
        wide = box([1, 0, 0, 0, 0, 2], [1, 0, 0, 0, 0, 3])
        self.assertEqual(with_damper(wide, ONE), box([2, 0, 0, 0, 0, 5], [1, 0, 0, 0, 0, 3]))

    def judge_bracket(self, told, width, holds_low, holds_high, low_from=None):
        low, high = values(told)
        self.assertIsInstance(told, tuple)
        self.assertTrue(low < high <= low + width)
        if low_from is not None:
            self.assertGreaterEqual(low, low_from)
        self.assertTrue(holds_low(low))
        self.assertTrue(holds_high(high))

    def test_brackets_of_known_shares(self):
        for own, most in KNOWN:
            most = Fraction(most)
            for width in WIDTHS:
                low, high = values(share(own, pair(width)))
                self.assertTrue(low <= most < high <= low + width, (own, low, high))
                told = values(least_damper(own, pair(width)))
                if is_keeper(own):
                    self.assertEqual(told, [0, 0])
                elif len(own[0]) == 1:
                    # A damper of just that size leaves nothing, and that is no KEEPER.
                    self.assertTrue(0 <= told[0] <= -most < told[1] <= told[0] + width)
                else:
                    self.assertTrue(0 <= told[0] < -most <= told[1] <= told[0] + width)

    def test_brackets(self):
        chance = random.Random(162)
        nones = 0
        for own in [some_box(chance) for _ in range(80)] + BORDERS + INNER + LOST + [one for one, _ in HELPED]:
            width = chance.choice(WIDTHS)
            told = share(own, pair(width))
            if told is None:
                nones += 1
                self.assertFalse(share_by_hand(own, -10 ** 15))
                self.assertIsNone(least_damper(own, pair(width)))
                continue
            self.judge_bracket(told, width, lambda e: share_by_hand(own, e), lambda e: not share_by_hand(own, e))
            self.judge_papers(own, *told)
            least = least_damper(own, pair(width))
            if is_keeper(own):
                self.assertGreaterEqual(value(told[1]), 0)
                self.assertEqual(least, (O, O))
                continue
            self.judge_bracket(least, width, lambda e: less_damper(own, -e) is None or not share_by_hand(own, -e),
                               lambda e: is_keeper(with_damper(own, pair(e))), 0)
        self.assertTrue(nones > 20)
        for own in BORDERS:
            self.assertEqual(value(share(own, (1, 8))[0]), 0)
        for own in LOST:
            self.assertIsNone(share(own, ONE))
            self.assertIsNone(least_damper(own, (1, 10 ** 6)))

    def judge_papers(self, own, low, high):
        told = share_papers(own, low, high)
        self.assertIsInstance(told, tuple)
        left, beyond = less_damper(own, value(low)), less_damper(own, value(high))
        if left is None:
            self.assertEqual(told[0], ())
        else:
            self.assertTrue(is_store_by_hand(left, told[0]))
        self.assertTrue(is_pair_by_hand(beyond, told[1]))
        self.assertIs(is_share(own, low, high, told), True)
        for wrong in (told[::-1], told[:1], told + (O,), list(told), None, True, (), (told[0], list(told[1])),
                      (list(told[0]), told[1]), (told[0], told[1][:3]), (told[0] + (ONE,), told[1]),
                      (told[0], told[1][:3] + (pair(value(told[1][3]) + Fraction(1, BIG)),))):
            self.assertIs(is_share(own, low, high, wrong), False)
        for start, end in ((high, high), (low, low), (high, low)):
            self.assertIs(is_share(own, start, end, told), False)
            with self.assertRaises(CanNot):
                share_papers(own, start, end)

    def test_papers_far_from_the_bracket(self):
        for own, most in KNOWN:
            most = Fraction(most)
            for low, high in ((most - 5, most + 5), (most, most + Fraction(1, BIG)), (most - 1, most + 10 ** 9)):
                self.judge_papers(own, pair(low), pair(high))
        self.assertIs(is_share(damper(2), TWO, (3, 1), ((), row(2, 0, -3, 0))), True)
        self.assertIs(is_share(damper(2), TWO, (3, 1), (((ONE,),), row(2, 0, -3, 0))), False)
        self.assertIs(is_share(damper(2), ONE, TWO, ((), row(2, 0, -3, 0))), False)
        # The STORE of what is left, not of the BOX itself.
        own = box([1, 0], [1, "-1/2"])
        self.assertIs(is_share(own, O, ONE, (((ONE,),), share_papers(own, O, ONE)[1])), True)
        self.assertIs(is_share(own, (2, 3), ONE, (((ONE,),), share_papers(own, O, ONE)[1])), False)

    def test_inner_shares(self):
        chance = random.Random(163)
        stuck = 0
        for _ in range(80):
            own, e = some_box(chance), abs(any_fraction(chance))
            if value(own[0][0]) < 0 and chance.random() < 0.4:
                e = -1 / value(own[0][0])
            lead = 1 + e * value(own[0][0])
            if lead == 0:
                stuck += 1
                for call in (lambda: inner_share(own, pair(e)), lambda: pair_of_share(own, pair(e))):
                    with self.assertRaises(Stuck):
                        call()
                self.assertIs(keeps_with_share(own, pair(e)), False)
                for thing in (row(1, 0, -3, 0), None, row(2, 0, 3, 0)):
                    self.assertIs(is_pair_of_share(own, pair(e), thing), False)
                continue
            told = inner_share(own, pair(e))
            self.assertEqual(values(told[0]), [a / lead for a in values(own[0])])
            self.assertEqual(values(told[1]), [(b + e * a) / lead for a, b in zip(values(own[0]), values(own[1]))])
            self.assertIs(keeps_with_share(own, pair(e)), is_keeper(told))
            if own[0][0] != O and e != 0:
                # Turned, it is the turned BOX and a damper.
                back = with_damper(turned(own), pair(e))
                self.assertEqual(turned(told), back)
        self.assertTrue(stuck > 3)
        for e in (LESS, (-1, BIG), 1, (0, 2)):
            for function in (inner_share, keeps_with_share, pair_of_share):
                with self.assertRaises(Unfit):
                    function(PUSH, e)
            with self.assertRaises(Unfit):
                is_pair_of_share(PUSH, e, None)

    def test_what_stands(self):
        chance = random.Random(164)
        seen = [0, 0, 0]
        for _ in range(90):
            own, e = some_box(chance), Fraction(chance.randint(0, 12), chance.randint(1, 4))
            if keeps_with_share(own, pair(e)):
                seen[0] += 1
                with self.assertRaises(NoPaper):
                    pair_of_share(own, pair(e))
                for _ in range(4):
                    other = with_share(chance, e)
                    self.assertIs(is_stuck(own, other), False)
                    self.assertIs(runs_away(own, other), False)
                self.assertIs(keeps_with_share(own, pair(e + any_fraction(chance) ** 2)), True)
            elif 1 + e * value(own[0][0]) != 0:
                seen[1] += 1
                self.judge_pair(own, e, pair_of_share(own, pair(e)))
            self.assertIs(keeps_with_share(own, O), is_keeper(own))
            seen[2] += is_keeper(own)
        self.assertTrue(min(seen) > 15, seen)

    def judge_pair(self, own, e, four):
        self.assertIs(is_pair_of_share(own, pair(e), four), True)
        named = (("spring", four[0]), ("mass", four[1]), ("damper", pair(e)))
        other = parts_box(tuple(part for part in named if part[1] != O))
        self.assertFalse(is_stuck(own, other))
        self.assertIs(runs_away(own, other), True)
        a, b = values(four[2:])
        self.assertGreater(a * a + b * b, 1)
        by = row(-a, 1) if b == 0 else row(a * a + b * b, -2 * a, 1)
        self.assertEqual(poly_parted(loop(own, other), by)[1], ())
        for wrong in (four[:3], four + (O,), list(four), None, True, ((O,) * 2 + four[2:]),
                      (pair(value(four[0]) + Fraction(1, BIG)),) + four[1:], (four[0], LESS) + four[2:],
                      four[:3] + (pair(-1 - value(four[3])),), four[:2] + (HALF, O)):
            self.assertIs(is_pair_of_share(own, pair(e), wrong), False)

    def test_safe_from(self):
        for own, least in ((PUSH, 1), (GROW, 1), (damper(-4), "1/4"), (damper("-1/7"), 7), (box([1, 0], [1, -3]), 2),
                           (times(turned(box([1, 3], [1, 0])), (1, 2)), 4)):
            for width in WIDTHS:
                low, high = values(safe_from(own, pair(width)))
                self.assertTrue(0 <= low < high <= low + width)
                self.assertTrue(low <= Fraction(least) <= high, own)
        chance = random.Random(165)
        seen = [0, 0]
        for own in [some_box(chance) for _ in range(60)] + LOST + INNER:
            width = chance.choice(WIDTHS)
            told = safe_from(own, pair(width))
            if is_keeper(own):
                self.assertEqual(told, (O, O))
            elif told is None:
                seen[0] += 1
                self.assertIs(keeps_with_share(own, (2 ** 20, 1)), False)
            else:
                seen[1] += 1
                self.judge_bracket(told, width, lambda e: not keeps_with_share(own, pair(e)),
                                   lambda e: keeps_with_share(own, pair(e)), 0)
        self.assertTrue(min(seen) > 5, seen)
        for own in (LAG, late(damper(-3), 2), spring(-1), damper(Fraction(-1, 2 ** 20)), damper(Fraction(-1, 2 ** 21))):
            self.assertIsNone(safe_from(own, ONE))
        low, high = values(safe_from(damper(Fraction(-1, 2 ** 20 - 1)), (1, 10 ** 6)))
        self.assertTrue(low <= 2 ** 20 - 1 < high <= low + Fraction(1, 10 ** 6))

    def test_shares_of_sums(self):
        chance = random.Random(166)
        for _ in range(40):
            one, other, width = some_box(chance), some_box(chance), chance.choice(WIDTHS)
            try:
                both = summed(one, other)
            except (CanNot, TooMany) as wrong:
                with self.assertRaises(type(wrong)):
                    share_of_sum(one, other, pair(width))
                continue
            told = share_of_sum(one, other, pair(width))
            self.assertEqual(told, share(both, pair(width)))
            first, second = share(one, pair(width)), share(other, pair(width))
            if first is not None and second is not None:
                self.assertGreater(value(told[1]), value(first[0]) + value(second[0]))
        with self.assertRaises(CanNot):
            share_of_sum(PUSH, damper(1), ONE)
        with self.assertRaises(TooMany):
            share_of_sum(late(damper(1), 5), box([1, 0], [1, "1/2"]), ONE)
        self.assertIsNone(share_of_sum(damper(2), GROW, HALF))

    def test_widths(self):
        for width in (O, TWO, LESS, (1, 10 ** 6 + 1), (10 ** 6 + 1, 10 ** 6), 1, (2, 2)):
            for own in (SOFT, PUSH, spring(-1)):
                for function in (share, least_damper, safe_from):
                    with self.assertRaises(Unfit):
                        function(own, width)
                with self.assertRaises(Unfit):
                    share_of_sum(own, times(own, LESS), width)

    def test_great_numbers(self):
        tiny = Fraction(1, BIG)
        for own, most in ((box([BIG, 1], [1, 0]), BIG - 1), (box([tiny, 1], [1, 0]), tiny - 1),
                          (box([1, 0], [1, tiny - 1]), 1 / (2 - tiny)), (summed(spring(BIG), damper(tiny)), tiny),
                          (damper(-BIG), -BIG)):
            for width in WIDTHS:
                low, high = values(share(own, pair(width)))
                self.assertTrue(low <= most < high <= low + width)
            self.judge_papers(own, pair(most), pair(most + tiny * tiny))
            self.assertEqual(values(least_damper(own, ONE)) == [0, 0], is_keeper(own))
        for own in (loss_free(random.Random(167)), rim_pair((1, BIG)), mass(tiny)):
            self.assertEqual(share(own, (1, 10 ** 6)), (O, (1, 10 ** 6)))


if __name__ == "__main__":
    unittest.main()
