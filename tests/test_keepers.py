"""Point [9]: KEEPERS, their PAPERS, the nearest ones."""

import random
import unittest
from fractions import Fraction

from keepcompany.boxes import echoes, late, summed, times, turned
from keepcompany.curves import curve, curve_at, curve_below
from keepcompany.errors import CanNot, NoPaper, TooMany, Unfit
from keepcompany.keepers import (echo_bound, is_border, is_keeper, is_paper, keepers_of, keeps_by_rows,
                                 keeps_turned, nearest_keeper, paper, why_not)
from keepcompany.numbers import zeros_outside
from keepcompany.stores import store
from keepcompany.works import gives_within

from helpers import BIG, LESS, O, ONE, TWO, box, is_store_by_hand, pair, row, value, values
from makers import BORDERS, HELPED, INNER, LOST, damper, keeper, less_damper, loss_free, mass, small_box, spring

FADE = box([1, 0], [1, "-1/2"])
GIVERS = LOST + [own for own, _ in HELPED]


def fails_plain_damper(own):
    """STUCK with the damper 1, or with zeros of tops and bottoms, added, outside."""
    both = [a + b for a, b in zip(values(own[0]), values(own[1]))]
    return both[0] == 0 or zeros_outside(row(*both[::-1])) > 0


def paper_holds(own, told):
    if told[0] == "store":
        return len(told) == 2 and is_store_by_hand(own, told[1])
    if told[0] == "curve":
        return len(told) == 2 and -1 <= value(told[1]) <= 1 and value(curve_at(own, told[1])) < 0
    return told == ("damper",) and fails_plain_damper(own)


class KeeperTests(unittest.TestCase):

    def test_just_one_of_two(self):
        chance = random.Random(61)
        seen = [0, 0]
        for _ in range(250):
            own = small_box(chance, chance.randint(0, 4)) if chance.random() < 0.6 else keeper(chance)
            keeps = is_keeper(own)
            seen[keeps] += 1
            self.check_papers(own, keeps)
        self.assertTrue(min(seen) > 60)

    def check_papers(self, own, keeps):
        told = paper(own)
        self.assertEqual(told[0] == "store", keeps)
        self.assertTrue(paper_holds(own, told), own)
        self.assertIs(is_paper(own, told), True)
        self.assertIs(is_keeper(own), keeps)
        self.assertIs(keepers_of((own,)) == (0,), keeps)
        if keeps:
            self.assertIsNone(curve_below(own))
            self.assertFalse(fails_plain_damper(own))
            self.assertIs(is_paper(own, ("damper",)), False)
            with self.assertRaises(NoPaper):
                why_not(own)
            self.assertEqual(echo_bound(own), pair(2 * value(own[0][0])))
            self.assertTrue(all(abs(x) <= value(echo_bound(own)) for x in values(echoes(own, 12))))
        else:
            bad = why_not(own)
            self.assertIn(bad[0], ("curve", "damper"))
            self.assertTrue(paper_holds(own, bad))
            self.assertIs(is_paper(own, bad), True)
            self.assertIs(is_paper(own, ("damper",)), fails_plain_damper(own))
            with self.assertRaises(CanNot):
                echo_bound(own)
        if own[0][0] == O:
            with self.assertRaises(CanNot):
                keeps_turned(own)
        else:
            self.assertIs(keeps_turned(own), keeps)
            self.assertIs(is_keeper(turned(own)), keeps)

    def test_known_keepers_and_givers(self):
        chance = random.Random(62)
        for own in [keeper(chance) for _ in range(80)] + [loss_free(chance) for _ in range(20)] + BORDERS + INNER:
            self.check_papers(own, True)
            self.check_papers(times(own, (3, 7)), True)
            self.check_papers(times(own, LESS), False)
            try:
                self.check_papers(late(own, 1), False)
                self.check_papers(summed(own, spring(2)), True)
            except TooMany:
                pass
        for own in GIVERS:
            self.check_papers(own, False)

    def test_by_a_hair(self):
        tiny = Fraction(1, BIG)
        for shift in (tiny, 0, -tiny):
            keeps = shift >= 0
            for own in (damper(shift) if shift else damper(1), box([1 + shift, 1], [1, 0]),
                        box([1 + shift, 0, 0, 0, -1], [1, 0, 0, 0, 0]), box([3 + shift, -4, 2], [1, 0, 0]),
                        box([1, 1 - shift], [1, -1]), box([1, 1], [1, -1 + shift]),
                        summed(spring(1), damper(shift)) if shift else spring(1)):
                self.check_papers(own, keeps)

    def test_stuck_with_the_plain_damper(self):
        for own in (damper(-1), box([-1, 5], [1, 0]), box([-1, 0, 3], [1, "1/2", "1/3"])):
            self.assertIs(is_paper(own, ("damper",)), True)
            self.assertIs(is_keeper(own), False)

    def test_papers_of_other_words(self):
        lag = box([0, 1], [1, 0])
        kept = store(FADE)
        self.assertIs(is_paper(FADE, ("store", kept)), True)
        for wrong in (("Store", kept), ("stores", kept), ("curve", kept), ("store",), ("store", kept, kept), kept,
                      ["store", kept], ("store", [kept]), ("store", lists_of(kept)), ("store", ((TWO,),)),
                      ("store", ()), ("curve", ONE), ("curve", LESS), ("damper",), "store", None, True, (), ((),),
                      (("store",), kept), (None, kept), ("damper", ONE)):
            self.assertIs(is_paper(FADE, wrong), False)
        # A CURVE that is below 0 only beyond -1, or beyond 1.
        for own, c in ((box([1, "1/2"], [1, "1/3"]), -2), (box([1, "-1/2"], [1, "-1/3"]), 2)):
            self.assertEqual(curve_at(own, pair(Fraction(c, 2)))[0] > 0, True)
            self.assertIs(is_paper(own, ("curve", pair(c))), False)
        self.assertIs(is_paper(lag, ("curve", (-1, 10 ** 9))), True)
        for wrong in (("curve", O), ("curve", ONE), ("curve", [-1, 2]), ("curve", (-2, 4)), ("curve", (-2, 1)),
                      ("curve", (-BIG - 1, BIG)), ("curve", -1), ("curve", LESS, LESS), ("curve",), ["curve", LESS],
                      ("damper", ()), ["damper"], "damper", ("damper ",), ("damping",), (True,), ("curve", (-1, True))):
            self.assertIs(is_paper(lag, wrong), False)
        self.assertIs(is_paper(damper(2), ("store", ())), True)
        self.assertIs(is_paper(damper(-2), ("store", ())), False)

    def test_rows(self):
        chance = random.Random(63)
        for _ in range(40):
            own = small_box(chance, chance.randint(0, 3)) if chance.random() < 0.7 else keeper(chance)
            for k in (0, 1, 2, 5, 12):
                self.assertIs(keeps_by_rows(own, k), not gives_within(own, k))
                if is_keeper(own):
                    self.assertIs(keeps_by_rows(own, k), True)

    def test_borders(self):
        for own in BORDERS:
            self.assertIs(is_border(own), True)
            self.assertTrue(is_keeper(own))
            less = less_damper(own, Fraction(1, 10 ** 30))
            self.assertFalse(is_keeper(less))
            self.assertIs(is_border(less), False)
        for own in INNER:
            self.assertIs(is_border(own), False)
            less = less_damper(own, Fraction(1, 10 ** 30))
            self.assertTrue(less is None or is_keeper(less))
        for own in GIVERS:
            self.assertIs(is_border(own), False)
        chance = random.Random(64)
        for _ in range(60):
            own = keeper(chance)
            less = less_damper(own, Fraction(1, 10 ** 30))
            self.assertIs(is_border(own), less is not None and not is_keeper(less))
            if curve(own) == ():
                self.assertIs(is_border(own), True)

    def check_nearest(self, own, width, least=None):
        told = nearest_keeper(own, pair(width))
        self.assertTrue(is_store_by_hand(told, store(told)))
        if is_keeper(own):
            self.assertEqual(told, own)
            return
        e = value(told[0][0]) - value(own[0][0])
        self.assertGreater(e, 0)
        self.assertEqual(told[1], own[1])
        self.assertEqual(values(told[0]), [a + e * b for a, b in zip(values(own[0]), values(own[1]))])
        before = less_damper(told, width)
        self.assertTrue(before is None or not is_keeper(before))
        if least is not None:
            self.assertTrue(least <= e <= least + width)

    def test_nearest_keepers(self):
        for own, least in HELPED:
            for width in (1, Fraction(1, 3), Fraction(1, 1000), Fraction(1, 10 ** 6)):
                self.check_nearest(own, width, least)
        for own in BORDERS + INNER:
            self.check_nearest(own, Fraction(1, 7))
        for own in LOST:
            for width in (ONE, (1, 10 ** 6)):
                with self.assertRaises(NoPaper):
                    nearest_keeper(own, width)
        chance = random.Random(65)
        for _ in range(60):
            own = small_box(chance, chance.randint(0, 4))
            try:
                self.check_nearest(own, Fraction(1, chance.choice((1, 5, 1000))))
            except NoPaper:
                self.assertFalse(is_keeper(summed(own, damper(10 ** 12))))
            less = less_damper(keeper(chance), Fraction(chance.randint(1, 30), 7))
            if less is not None:
                self.check_nearest(less, Fraction(1, 5))

    def test_sets_of_places(self):
        self.assertEqual(keepers_of(()), ())
        self.assertEqual(keepers_of([]), ())
        self.assertEqual(keepers_of((spring(1), damper(-1), mass(1), FADE, box([0, 1], [1, 0]), FADE)), (0, 2, 3, 5))
        for wrong in (((ONE,), (ONE,)), (FADE, (FADE,)), 3, None, "ab", (FADE, box([1, 0, -1], [1, -2, 1]))):
            with self.assertRaises(Unfit):
                keepers_of(wrong)


def lists_of(own):
    return tuple(list(line) for line in own)


if __name__ == "__main__":
    unittest.main()
