"""Point [12]: one PART alone, its MARKS and where it runs."""

import random
import unittest
from fractions import Fraction

from keepcompany.alone import (is_one_part, is_quiet, kinds_that_run, least_amount, marks, one_of_kind, one_part,
                               part_for_times, runs_with, spans, stuck_amount)
from keepcompany.boxes import made_small, summed, times
from keepcompany.curves import curve, rim_pair
from keepcompany.errors import CanNot, NoPaper, TooMany, Unfit
from keepcompany.keepers import is_keeper
from keepcompany.numbers import zeros_outside

from helpers import BIG, HALF, LESS, O, ONE, TWO, any_fraction, box, pair, row, value, values
from makers import BORDERS, HELPED, INNER, LOST, damper, keeper, loss_free, mass, small_box, spring
from test_loops import loop_by_hand

KINDS = ("damper", "mass", "spring")
MADE = {"damper": damper, "spring": spring, "mass": mass}
LAG = box([0, 1], [1, 0])
TARDY = box([0, 1], [1, "-1/2"])
# Dampers from 1 to 5 bring both zeros to the rim.
EVEN = box([0, 1, 0], [1, -3, 1])
# With a damper of 2 two zeros, outside before and behind, only touch the rim.
KISSED = box([0, 0, 0, 1], [1, 0, 1, -2])
PULLS = [spring(-1), mass("-2/3"), summed(spring(-2), mass(-1)), summed(spring(-1), mass(2)), times(rim_pair((1, 3)), LESS)]


def count_outside(own, kind, amount):
    """OUTSIDE of the LOOP, or None if both are STUCK."""
    other = MADE[kind](amount)
    if 1 + value(own[0][0]) * value(other[0][0]) == 0:
        return None
    return zeros_outside(loop_by_hand(own, other))


def even_box(chance):
    """A BOX that is alike upside down, so that it is real on the rim."""
    half = chance.randint(1, 2)
    tops, bottoms = [any_fraction(chance) for _ in range(half + 1)], [1] + [any_fraction(chance) for _ in range(half)]
    if not any(tops):
        tops[0] = 1
    return made_small(box(tops + tops[-2::-1], bottoms + bottoms[-2::-1]))


def some_box(chance):
    kind = chance.random()
    if kind < 0.5:
        return small_box(chance, chance.randint(0, 4))
    if kind < 0.65:
        return even_box(chance)
    if kind < 0.75:
        return times(loss_free(chance), LESS)
    return chance.choice(BORDERS + INNER + LOST + [own for own, _ in HELPED[:7]])


class AloneTests(unittest.TestCase):

    def judge_marks(self, own, kind, width, chance):
        """Each stretch by amounts within it, each MARK by what lies on both sides."""
        told = marks(own, kind, pair(width))
        self.assertIsInstance(told, list)
        ends = [Fraction(0)]
        for low, high in told:
            low, high = value(low), value(high)
            self.assertTrue(ends[-1] < low <= high <= low + width)
            ends.extend([low, high])
        stuck = stuck_amount(own)
        counts = []
        for k in range(len(told) + 1):
            start = ends[2 * k]
            stretch = ends[2 * k + 1] - start if k < len(told) else Fraction(100)
            met = [count_outside(own, kind, start + stretch * Fraction(chance.randint(1, 999), 1000)) for _ in range(4)]
            self.assertNotIn(None, met)
            self.assertEqual(len(set(met)), 1, (own, kind, start))
            counts.append(met[0])
        for k, (low, high) in enumerate(told):
            held = stuck is not None and value(low) <= value(stuck) <= value(high)
            self.assertTrue(held or counts[k] != counts[k + 1], (own, kind, told))
        starts = [O] + [high for _, high in told]
        wanted = [(start, end) for start, end, count in zip(starts, [low for low, _ in told] + [None], counts) if count]
        self.assertEqual(spans(own, kind, pair(width)), wanted)
        self.judge_amounts(own, kind, width, wanted, chance)
        return told

    def judge_amounts(self, own, kind, width, runs, chance):
        found = one_of_kind(own, kind)
        self.assertEqual(found is None, runs == [])
        if found is None:
            with self.assertRaises(CanNot):
                least_amount(own, kind, pair(width))
            return
        self.assertTrue(value(found) > 0 and count_outside(own, kind, value(found)))
        low, high = values(least_amount(own, kind, pair(width)))
        self.assertTrue(0 <= low < high <= low + width)
        for part in (1, *[Fraction(chance.randint(1, 99), 100) for _ in range(4)]):
            if low > 0:
                self.assertFalse(count_outside(own, kind, low * part))
        self.assertTrue(count_outside(own, kind, high))

    def test_marks_and_spans(self):
        chance = random.Random(121)
        seen = {}
        for _ in range(110):
            own = some_box(chance)
            refused = not is_keeper(own) and not curve(own)
            for kind in KINDS:
                width = chance.choice((Fraction(1), Fraction(1, 3), Fraction(1, 10 ** 6)))
                if refused and kind != "damper":
                    for call in (lambda: marks(own, kind, pair(width)), lambda: spans(own, kind, pair(width)),
                                 lambda: one_of_kind(own, kind), lambda: least_amount(own, kind, pair(width)),
                                 lambda: kinds_that_run(own)):
                        with self.assertRaises(CanNot):
                            call()
                    continue
                many = len(self.judge_marks(own, kind, width, chance))
                seen[many] = seen.get(many, 0) + 1
        self.assertTrue(min(seen[k] for k in range(4)) > 5, seen)

    def test_keepers_have_none(self):
        chance = random.Random(122)
        for own in BORDERS + INNER + [keeper(chance) for _ in range(30)] + [loss_free(chance) for _ in range(10)]:
            for kind in KINDS:
                self.assertEqual(marks(own, kind, ONE), [])
                self.assertEqual(spans(own, kind, (1, 10 ** 6)), [])
                self.assertIsNone(one_of_kind(own, kind))
                for amount in (HALF, ONE, (BIG, 7), (1, BIG)):
                    self.assertIs(runs_with(own, (kind, amount)), False)
                    self.assertIs(is_quiet(own, (kind, amount)), True)
                with self.assertRaises(CanNot):
                    least_amount(own, kind, ONE)
            self.assertEqual(kinds_that_run(own), ())
            self.assertIsNone(stuck_amount(own))
            with self.assertRaises(NoPaper):
                one_part(own)
            for kind in KINDS:
                self.assertIs(is_one_part(own, (kind, ONE)), False)

    def test_known_marks(self):
        known = [(LAG, "damper", [1], [1]), (LAG, "spring", [1], [1]), (LAG, "mass", [], [0]),
                 (TARDY, "damper", ["3/2"], [1]), (EVEN, "damper", [1, 5], [0, 2]),
                 (damper(-2), "damper", ["1/2"], []), (damper(-2), "spring", ["1/2"], [0, 1]),
                 (damper(-2), "mass", ["1/2"], [0, 1]), (KISSED, "damper", [4], [0, 1]),
                 (box([0, 0, 0, 0, 1], [1, 0, 0, 0, 0]), "damper", [1], [1]), (spring(-1), "damper", [1], [0, 1]),
                 (box([0, 1], [1, -3]), "damper", [2, 4], [0, 2]), (box([1, 0], [1, -2]), "damper", [1], [0]),
                 # Alike upside down: in the last ones two pairs of zeros meet on the rim, at i and -i.
                 (box([0, 0, 1, 0, 0], [1, 0, 1, 0, 1]), "damper", [1], [1]),
                 (box([0, 0, "1/2", 0, 0], [1, 0, 1, 0, 1]), "damper", [2], [1]),
                 (box([0, 0, -1, 0, 0], [1, 0, 4, 0, 1]), "damper", [2, 6], [0, 2])]
        for own, kind, places, runs in known:
            for width in (ONE, (1, 10), (1, 10 ** 6)):
                told = marks(own, kind, width)
                self.assertEqual(len(told), len(places), (own, kind, told))
                for (low, high), place in zip(told, places):
                    self.assertTrue(value(low) <= Fraction(place) <= value(high))
                starts, ends = [O] + [high for _, high in told], [low for low, _ in told] + [None]
                self.assertEqual(spans(own, kind, width), [(starts[k], ends[k]) for k in runs])

    def test_zeros_that_touch_the_rim(self):
        self.assertIs(runs_with(KISSED, ("damper", TWO)), False)
        self.assertIs(is_quiet(KISSED, ("damper", TWO)), True)
        for amount in (1, Fraction(2) - Fraction(1, BIG), Fraction(2) + Fraction(1, BIG), 3):
            self.assertIs(runs_with(KISSED, ("damper", pair(amount))), True)
        for amount, runs in ((Fraction(1) - Fraction(1, BIG), True), (1, False), (3, False), (5, False),
                             (5 + Fraction(1, BIG), True)):
            self.assertIs(runs_with(EVEN, ("damper", pair(amount))), runs)
        self.assertEqual(least_amount(EVEN, "damper", HALF)[0], O)

    def test_marks_near_each_other(self):
        for t, near in ((10 ** 10, True), (41 * 10 ** 8, True), (39 * 10 ** 8, False), (10 ** 9, False)):
            own = box([0, t, 0], [1, -3, 1])
            for width in (ONE, (1, 10 ** 6)):
                if near:
                    for function in (marks, spans, least_amount):
                        with self.assertRaises(TooMany):
                            function(own, "damper", width)
                else:
                    told = marks(own, "damper", width)
                    self.assertEqual(len(told), 2)
                    for (low, high), place in zip(told, (Fraction(1, t), Fraction(5, t))):
                        self.assertTrue(0 < value(low) <= place <= value(high))
                    self.assertLess(value(told[0][1]), value(told[1][0]))
                    self.assertEqual(least_amount(own, "damper", width)[0], O)
            self.assertIs(runs_with(own, ("damper", one_of_kind(own, "damper"))), True)
            self.assertEqual(kinds_that_run(own), KINDS)
        # Nearer than that, but one and the same.
        self.assertEqual(len(marks(damper(-10 ** 12), "damper", ONE)), 1)
        # Some other kind of it has no MARKS so near.
        self.assertEqual(len(marks(box([0, 10 ** 10], [1, 0]), "damper", ONE)), 1)

    def test_one_part_for_each_giver(self):
        chance = random.Random(123)
        givers = LOST + [own for own, _ in HELPED] + PULLS + [EVEN, KISSED, damper(-1), damper(Fraction(-1, BIG))]
        givers += [own for own in [some_box(chance) for _ in range(60)] if not is_keeper(own)]
        for own in givers:
            kind, amount = one_part(own)
            self.assertTrue(count_outside(own, kind, value(amount)), own)
            self.assertIs(is_one_part(own, (kind, amount)), True)
            if curve(own):
                ran = tuple(own_kind for own_kind in KINDS if one_of_kind(own, own_kind) is not None)
                self.assertEqual(kinds_that_run(own), ran)
                self.assertIn(kind, ran)
        for own, kinds in ((box(["3/2", "-1/2", "1/2"], [1, 1, 0]), ("mass",)), (box([1, "-1/2", 1], [1, "-3/2", 1]), ("spring",)),
                           (damper(-1), ("mass", "spring")), (LAG, KINDS)):
            self.assertEqual(kinds_that_run(own), kinds)
            self.assertEqual([kind for kind in KINDS if one_of_kind(own, kind) is not None], list(kinds))
        for own in PULLS:
            for amount in (HALF, TWO, (BIG, 1)):
                self.assertIs(runs_with(own, ("damper", amount)), value(amount) * value(own[0][0]) != -1)
            with self.assertRaises(CanNot):
                kinds_that_run(own)
            self.assertEqual(one_part(own)[0], "damper")
            self.assertIs(runs_with(own, ("damper", one_of_kind(own, "damper"))), True)

    def test_by_a_hair(self):
        tiny = Fraction(1, 10 ** 30)
        for own in BORDERS:
            less = (row(*[a - tiny * b for a, b in zip(values(own[0]), values(own[1]))]), own[1])
            self.assertFalse(is_keeper(less))
            self.assertTrue(is_one_part(less, one_part(less)))

    def test_runs_and_quiet(self):
        chance = random.Random(124)
        for _ in range(80):
            own, kind = some_box(chance), chance.choice(KINDS)
            amount = Fraction(chance.randint(1, 9), chance.randint(1, 4))
            if value(own[0][0]) < 0 and chance.random() < 0.4:
                amount = -1 / value(own[0][0])
            count = count_outside(own, kind, amount)
            part = (kind, pair(amount))
            self.assertIs(runs_with(own, part), bool(count))
            self.assertIs(is_quiet(own, part), count == 0)
            self.assertIs(is_one_part(own, part), bool(count))
            factor = Fraction(chance.randint(1, 9), chance.randint(1, 9))
            other = part_for_times(pair(factor), part)
            self.assertEqual(other, (kind, pair(amount / factor)))
            self.assertIs(runs_with(times(own, pair(factor)), other), bool(count))

    def test_stuck_amounts(self):
        chance = random.Random(125)
        for _ in range(60):
            own = some_box(chance)
            lead = value(own[0][0])
            self.assertEqual(stuck_amount(own), pair(-1 / lead) if lead < 0 else None)
            if lead < 0:
                for kind in KINDS:
                    self.assertIs(runs_with(own, (kind, stuck_amount(own))), False)
                    self.assertIs(is_quiet(own, (kind, stuck_amount(own))), False)

    def test_wrong_kinds_and_widths(self):
        for kind in ("rod", "", None, True, 3, ("damper",), "Damper", "dampers", b"mass"):
            for call in (lambda: marks(TARDY, kind, ONE), lambda: spans(TARDY, kind, ONE),
                         lambda: one_of_kind(TARDY, kind), lambda: least_amount(TARDY, kind, ONE)):
                with self.assertRaises(Unfit):
                    call()
        for width in (O, (1, 10 ** 6 + 1), (10 ** 6 + 1, 10 ** 6), TWO, LESS):
            for function in (marks, spans, least_amount):
                for own in (TARDY, damper(1), spring(-1)):
                    with self.assertRaises(Unfit):
                        function(own, "mass", width)
        for factor in (O, LESS, (-1, BIG), (0, 3), 1):
            with self.assertRaises(Unfit):
                part_for_times(factor, ("mass", ONE))
        self.assertEqual(part_for_times((BIG, 1), ("mass", ONE)), ("mass", (1, BIG)))

    def test_great_numbers(self):
        chance = random.Random(126)
        tiny = Fraction(1, BIG)
        for own, places in ((box([0, BIG], [1, 0]), [tiny]), (box([0, tiny], [1, 0]), [BIG]),
                            (box([0, 1], [1, -BIG]), [BIG - 1, BIG + 1]), (box([0, tiny], [1, -3]), [2 * BIG, 4 * BIG]),
                            (damper(-tiny), [BIG]), (box([1, tiny], [1, -BIG]), None),
                            (box([tiny, Fraction(BIG, 3), 7], [1, Fraction(BIG, BIG - 1), -BIG]), None)):
            for kind in KINDS:
                told = self.judge_marks(own, kind, Fraction(1, 10 ** 6), chance)
                if kind == "damper" and places is not None:
                    self.assertEqual(len(told), len(places))
                    self.assertTrue(all(value(low) <= place <= value(high) for (low, high), place in zip(told, places)))
            self.assertTrue(is_one_part(own, one_part(own)))
        with self.assertRaises(TooMany):
            marks(box([0, BIG], [1, -3]), "damper", ONE)


if __name__ == "__main__":
    unittest.main()
