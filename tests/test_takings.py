"""Point [18]: PARTS taken off, and PARTS that are late."""

import random
import unittest
from fractions import Fraction

from keepcompany.boxes import echoes, late, made_small, summed, times
from keepcompany.curves import rim_pair
from keepcompany.errors import CanNot, TooMany, Unfit
from keepcompany.keepers import is_keeper
from keepcompany.shares import least_damper, with_damper
from keepcompany.takings import (after_all, is_most, lag_damper, lags_borne, late_mass, late_row, late_spring, most_mass,
                                 most_ring, most_spring, taken, wall, wall_damper)
from keepcompany.works import is_giving_row

from helpers import BIG, HALF, LESS, O, ONE, TWO, answers_by_hand, box, pair, poly, row, value, values, work_by_hand
from makers import (BORDERS, HELPED, INNER, LOST, damper, fading, keeper, late_with_damper, less_damper, loss_free, mass,
                    small_box, some_amount, spring)

TINY = Fraction(1, BIG)
GIVERS = LOST + [own for own, _ in HELPED]
RUB = damper(2)


def added(own, other, many=1):
    """own and many times other, of however many cells; None if that answers nothing."""
    tops, bottoms, tops_too, bottoms_too = [row(*values(x)) for x in own + other]
    one = values(poly([values(tops), values(bottoms_too)]))
    two = values(poly([values(tops_too), values(bottoms), [many]]))
    both = [a + b for a, b in zip(one, two)]
    return made_small((row(*both), poly([values(bottoms), values(bottoms_too)]))) if any(both) else None


def all_added(boxes):
    out = boxes[0]
    for own in boxes[1:]:
        out = added(out, own)
    return out


def ring(c, many):
    return times(rim_pair(pair(Fraction(c))), pair(many))


def no_rim(chance):
    """A KEEPER whose bottoms have no zero on the rim, and that goes on being one less a little damper."""
    one = chance.choice((late_with_damper, fading))(chance)
    return added(one, damper(some_amount(chance)))


def keeps(own):
    return own is None or is_keeper(own)


class MostTests(unittest.TestCase):

    def put_together(self, chance, most_rings=3):
        """The triple (BOX, what it is made of: spring, mass, the rings by their c, the rest, or None)."""
        amounts = [some_amount(chance) if chance.random() < 0.6 else 0 for _ in range(2)]
        rings = {Fraction(chance.randint(-9, 9), 10): some_amount(chance) for _ in range(chance.randint(0, most_rings))}
        rest = no_rim(chance) if chance.random() < 0.7 else None
        made = [kind(a) for kind, a in zip((spring, mass), amounts) if a]
        made += [ring(c, a) for c, a in rings.items()] + ([rest] if rest is not None else [])
        if not made:
            return self.put_together(chance, most_rings)
        chance.shuffle(made)
        return all_added(made), amounts, rings, rest

    def test_what_is_known(self):
        chance = random.Random(181)
        greatest = 0
        for _ in range(150):
            own, (a, b), rings, rest = self.put_together(chance)
            greatest = max(greatest, len(own[0]) - 1)
            self.assertEqual(most_spring(own), pair(a))
            self.assertEqual(most_mass(own), pair(b))
            for c in list(rings) + [Fraction(1, 3), Fraction(-7, 11)]:
                self.assertEqual(most_ring(own, pair(c)), pair(rings.get(c, 0)))
            if rest is None:
                with self.assertRaises(CanNot):
                    after_all(own)
            else:
                self.assertEqual(after_all(own), rest)
            self.judge_is_most(own, a, b)
        self.assertGreater(greatest, 8)

    def judge_is_most(self, own, a, b):
        for kind, amount in (("spring", Fraction(a)), ("mass", Fraction(b))):
            for told in (amount, amount + TINY, amount - TINY, amount + 1, amount / 2):
                if told > 0:
                    self.assertIs(is_most(own, (kind, pair(told))), told == amount)

    def test_the_hair_that_is_too_much(self):
        chance = random.Random(182)
        for _ in range(40):
            own, (a, b), rings, _ = self.put_together(chance, 2)
            for unit, most in [(spring(1), a), (mass(1), b)] + [(ring(c, 1), m) for c, m in rings.items()]:
                for part in (Fraction(0), Fraction(1, 2), Fraction(1)):
                    self.assertTrue(keeps(added(own, unit, -part * most)))
                for more in (TINY, Fraction(1, 10), 3):
                    self.assertFalse(keeps(added(own, unit, -most - more)))
            # Whatever of the others is off already.
            left = added(added(own, spring(1), -Fraction(a) / 3), mass(1), -Fraction(b) / 2)
            if left is not None:
                for c, most in rings.items():
                    self.assertEqual(most_ring(left, pair(c)), pair(most))
                self.assertEqual(most_spring(left), pair(Fraction(a) * 2 / 3))

    def test_keepers_of_all_kinds(self):
        chance = random.Random(183)
        for own in [keeper(chance) for _ in range(60)] + [loss_free(chance) for _ in range(20)] + BORDERS + INNER:
            for unit, told in ((spring(1), most_spring(own)), (mass(1), most_mass(own)),
                               (ring("1/3", 1), most_ring(own, (1, 3))), (ring("4/5", 1), most_ring(own, (4, 5)))):
                most = value(told)
                self.assertGreaterEqual(most, 0)
                self.assertTrue(keeps(added(own, unit, -most)))
                self.assertFalse(keeps(added(own, unit, -most - TINY)))

    def test_givers(self):
        chance = random.Random(184)
        seen = 0
        for own in GIVERS + [small_box(chance, chance.randint(0, 5)) for _ in range(60)]:
            if is_keeper(own):
                continue
            seen += 1
            for call in (lambda: most_spring(own), lambda: most_mass(own), lambda: most_ring(own, HALF),
                         lambda: after_all(own)):
                with self.assertRaises(CanNot):
                    call()
            for kind in ("spring", "mass", "damper"):
                for amount in (ONE, HALF, (1, BIG)):
                    self.assertIs(is_most(own, (kind, amount)), False)
        self.assertGreater(seen, 40)
        # It would keep less a spring, were that below 0.
        self.assertIs(is_most(spring(-1), ("spring", ONE)), False)
        with self.assertRaises(Unfit):
            most_ring(spring(-1), ONE)

    def test_dampers_that_are_most(self):
        for own, most in ((damper(2), 2), (box([1, 0], [1, "1/2"]), "2/3"), (box([1, 0], [1, -1]), "1/2"),
                          (summed(rim_pair((1, 3)), damper("5/7")), "5/7"), (box([2, 0, 0, 1], [1, 0, 0, 0]), 1),
                          (summed(spring(BIG), damper(TINY)), TINY)):
            most = Fraction(most)
            self.assertIs(is_most(own, ("damper", pair(most))), True)
            for other in (most + TINY * TINY, most - TINY * TINY, most * 2, most / 2):
                self.assertIs(is_most(own, ("damper", pair(other))), False)
        for own in BORDERS:
            for amount in (ONE, HALF, (1, BIG), (BIG, 1)):
                self.assertIs(is_most(own, ("damper", amount)), False)
            self.assertIs(is_most(added(own, damper(3)), ("damper", (3, 1))), True)

    def test_things_that_are_no_parts(self):
        for own in (RUB, spring(1), spring(-1)):
            for thing in (None, True, False, 2, "damper", (), ("damper",), ("damper", 2), ["damper", TWO],
                          ("damper", [2, 1]), ("Damper", TWO), ("rod", TWO), ("damper", (4, 2)), ("damper", (2, True)),
                          ("damper", TWO, TWO), (TWO, "damper"), ("damper", O), ("damper", (-2, 1)), ("spring", (True, 1)),
                          (["damper"], TWO), ((("damper", TWO),),)):
                self.assertIs(is_most(own, thing), False)
        self.assertIs(is_most(RUB, ("damper", TWO)), True)
        for wrong in (None, (), box([1, 1], [1, 1]), 5):
            with self.assertRaises(Unfit):
                is_most(wrong, None)

    def test_boxes_of_twelve_cells(self):
        places = ["1/3", "-1/3", "4/5", "0", "-9/10"]
        own = all_added([ring(c, k + 1) for k, c in enumerate(places)] + [spring(7), mass("1/9")])
        self.assertEqual(len(own[0]) - 1, 12)
        self.assertEqual([most_spring(own), most_mass(own)], [(7, 1), (1, 9)])
        self.assertEqual([most_ring(own, pair(Fraction(c))) for c in places], [(k + 1, 1) for k in range(5)])
        self.assertEqual(most_ring(own, (1, 2)), O)
        self.assertIs(is_most(own, ("mass", (1, 9))), True)
        self.assertIs(is_most(own, ("damper", ONE)), False)
        with self.assertRaises(CanNot):
            after_all(own)
        with self.assertRaises(TooMany):
            taken(own, ("damper", ONE))
        fade = all_added([box([1, 0], [1, pair_]) for pair_ in ("1/2", "1/3", "-1/2")])
        other = all_added([ring(c, 2) for c in places[:4]] + [spring(1), fade])
        self.assertEqual(len(other[0]) - 1, 12)
        self.assertEqual(after_all(other), fade)
        self.assertIs(is_most(other, ("damper", (1, 2))), False)
        self.assertIs(is_most(added(own, damper("1/7")), ("damper", (1, 7))), True)

    def test_rings_at_places_that_are_no_fractions_stay(self):
        # z z z z + 1: c is the root of 1 / 2, and that less than 0.
        wild = box([1, 0, 0, 0, -1], [1, 0, 0, 0, 1])
        self.assertTrue(is_keeper(wild))
        self.assertEqual(after_all(wild), wild)
        self.assertEqual(after_all(all_added([wild, ring("1/3", 2), spring(3), mass(1)])), wild)
        self.assertEqual(after_all(all_added([wild, ring("7/10", 2), ring("-7/10", 1), RUB])), added(wild, RUB))
        near = Fraction(7071067811865475244008443621048490392848, BIG)
        self.assertEqual(after_all(all_added([wild, ring(near, 1)])), wild)
        self.assertEqual(most_ring(all_added([wild, ring(near, 1)]), pair(near)), ONE)
        self.assertEqual(most_ring(wild, pair(near)), O)

    def test_great_numbers(self):
        c = Fraction(BIG - 1, BIG)
        own = all_added([spring(BIG), mass(TINY), ring(c, Fraction(BIG, 3)), ring(-c, TINY), damper(TINY)])
        self.assertEqual([most_spring(own), most_mass(own)], [(BIG, 1), (1, BIG)])
        self.assertEqual([most_ring(own, pair(c)), most_ring(own, pair(-c))], [(BIG, 3), (1, BIG)])
        self.assertEqual(most_ring(own, (BIG - 2, BIG - 1)), O)
        self.assertEqual(after_all(own), damper(TINY))
        self.assertIs(is_most(own, ("damper", (1, BIG))), True)
        self.assertIs(is_most(own, ("spring", (BIG, 1))), True)
        for wrong in (ONE, LESS, TWO, (BIG + 1, BIG), (2, 2), 0, None):
            with self.assertRaises(Unfit):
                most_ring(own, wrong)

    def test_taken(self):
        chance = random.Random(185)
        seen = [0, 0, 0]
        for _ in range(120):
            own = small_box(chance, chance.randint(0, 5)) if chance.random() < 0.5 else keeper(chance)
            kind, amount = chance.choice(("spring", "mass", "damper")), some_amount(chance)
            if chance.random() < 0.2:
                own = {"spring": spring, "mass": mass, "damper": damper}[kind](amount)
            less = added(own, {"spring": spring, "mass": mass, "damper": damper}[kind](amount), -1)
            if less is None or len(less[0]) > 6:
                seen[less is None] += 1
                with self.assertRaises(CanNot if less is None else TooMany):
                    taken(own, (kind, pair(amount)))
                continue
            seen[2] += 1
            told = taken(own, (kind, pair(amount)))
            self.assertEqual(told, less)
            pushes = row(3, -1, 0, 2, 5)
            work = work_by_hand(told, pushes)
            part = {"spring": spring, "mass": mass, "damper": damper}[kind](amount)
            self.assertEqual(work, work_by_hand(own, pushes) - work_by_hand(part, pushes))
        self.assertTrue(min(seen) > 5, seen)


class LateTests(unittest.TestCase):

    def test_late_springs_and_masses(self):
        for amount in (Fraction(1), Fraction(3, 2), Fraction(5, 7), Fraction(BIG), TINY):
            for k in range(4):
                told = late_spring(pair(amount), k)
                self.assertEqual(told, pair(2 * k * amount))
                self.judge_late(late(spring(amount), k), value(told))
                told = late_mass(pair(amount), k)
                if k % 2 == 1:
                    self.assertIsNone(told)
                    for e in (1, 2 * k * amount, 10 ** 6 * amount, 10 ** 50):
                        self.assertFalse(is_keeper(added(late(mass(amount), k), damper(e))))
                    self.assertIsNone(lag_damper(mass(amount), k, ONE))
                else:
                    self.judge_late(late(mass(amount), k), value(told))
        for wrong in (-1, 4, None, True, ONE):
            for function in (late_spring, late_mass):
                with self.assertRaises(Unfit):
                    function(ONE, wrong)
        for wrong in (O, LESS, 1, (2, 2)):
            for function in (late_spring, late_mass):
                with self.assertRaises(Unfit):
                    function(wrong, 1)

    def judge_late(self, own, least):
        for e in (least, least + TINY, least * 2):
            self.assertTrue(is_keeper(added(own, damper(e)) if e else own))
        for e in (least - TINY * TINY, least / 2):
            if 0 < e < least:
                self.assertFalse(is_keeper(added(own, damper(e))))
        if least > 0:
            self.assertFalse(is_keeper(own))

    def test_late_rows(self):
        chance = random.Random(186)
        many = 0
        for _ in range(150):
            own = small_box(chance, chance.randint(0, 4)) if chance.random() < 0.5 else keeper(chance)
            k = chance.randint(1, 3)
            try:
                behind = late(own, k)
            except TooMany:
                many += 1
                with self.assertRaises(TooMany):
                    late_row(own, k)
                continue
            told = late_row(own, k)
            self.assertIsInstance(told, tuple)
            self.assertLess(work_by_hand(behind, told), 0)
            self.assertIs(is_giving_row(behind, told), True)
            self.assertFalse(is_keeper(behind))
        self.assertGreater(many, 5)
        for own in (damper(-3), damper(TINY), damper(-BIG), late(spring(2), 2), box([0, -5, 1], [1, 0, 3])):
            for k in (1, 2):
                self.assertLess(work_by_hand(late(own, k), late_row(own, k)), 0)
        for wrong in (0, 4, -1, True, None):
            with self.assertRaises(Unfit):
                late_row(damper(1), wrong)
        with self.assertRaises(Unfit):
            late_row(late(damper(1), 5), 4)

    def test_lag_dampers(self):
        chance = random.Random(187)
        nones = 0
        for _ in range(50):
            own = small_box(chance, chance.randint(0, 2)) if chance.random() < 0.6 else fading(chance)
            k, width = chance.randint(0, 3), chance.choice((Fraction(1), Fraction(1, 3), Fraction(1, 10 ** 6)))
            told = lag_damper(own, k, pair(width))
            behind = late(own, k)
            self.assertEqual(told, least_damper(behind, pair(width)))
            if told is None:
                nones += 1
                self.assertFalse(is_keeper(added(behind, damper(10 ** 30))))
            elif is_keeper(own) and k == 0:
                self.assertEqual(told, (O, O))
            else:
                low, high = values(told)
                self.assertTrue(0 <= low < high <= low + width)
                self.assertTrue(is_keeper(with_damper(behind, told[1])))
                left = less_damper(behind, -low)
                self.assertFalse(left is not None and is_keeper(left))
        self.assertGreater(nones, 5)
        low, high = values(lag_damper(spring(3), 2, (1, 10 ** 6)))
        self.assertTrue(low < 12 <= high)
        wide = box([1, 0, 0, 0, 0, 0], [1, 0, 0, 0, 0, "1/2"])
        with self.assertRaises(TooMany):
            lag_damper(box([1, 0, 0, 0, 1], [1, 0, 0, 0, "1/2"]), 2, ONE)
        self.assertEqual(lag_damper(wide, 0, ONE), least_damper(wide, ONE))
        for arguments in ((wide, 4, ONE), (wide, 3, TWO), (wide, 3, O), (wide, -1, ONE)):
            with self.assertRaises(Unfit):
                lag_damper(*arguments)

    def test_lags_that_are_borne(self):
        chance = random.Random(188)
        seen = set()
        for _ in range(120):
            own = small_box(chance, chance.randint(0, 2)) if chance.random() < 0.5 else fading(chance)
            e = Fraction(chance.randint(-3, 9), chance.randint(1, 2))
            told = lags_borne(own, pair(e))
            seen.add(told)
            wanted = []
            for k in range(4):
                left = less_damper(late(own, k), -e)
                if left is None or is_keeper(left):
                    wanted.append(k)
            self.assertEqual(told, tuple(wanted))
        self.assertGreater(len(seen), 4)
        self.assertEqual(lags_borne(damper(3), (-3, 1)), (0,))
        self.assertEqual(lags_borne(damper(3), (-4, 1)), ())
        self.assertEqual(lags_borne(damper(-3), (3, 1)), (0, 1, 2, 3))
        self.assertEqual(lags_borne(damper(3), O), (0,))
        self.assertEqual(lags_borne(mass(1), (BIG, 1)), (0, 2))
        self.assertEqual(lags_borne(spring(1), (4, 1)), (0, 1, 2))
        three = box([1, 0, 0, 1], [1, 0, 0, 0])
        with self.assertRaises(TooMany):
            lags_borne(three, ONE)
        # However few cells it has when it is late.
        with self.assertRaises(TooMany):
            lags_borne(box([1, 0, 0, 0], [1, 0, 0, "1/2"]), ONE)
        with self.assertRaises(Unfit):
            lags_borne(three, 1)

    def test_walls(self):
        for stiff in (Fraction(1), Fraction(2, 3), Fraction(BIG)):
            for rub in (Fraction(0), Fraction(1), stiff, Fraction(5, 2), TINY):
                for k in range(4):
                    own = wall(pair(stiff), pair(rub), k)
                    self.assertEqual(own, made_small(own))
                    pushes = row(1, 0, 0, 0, 2, 0, 0)
                    at_once = [a + b for a, b in zip(answers_by_hand(spring(stiff), pushes)[0],
                                                     [rub * x for x in values(pushes)])]
                    self.assertEqual(answers_by_hand(own, pushes)[0], ([Fraction(0)] * k + at_once)[:7])
                    for width in (Fraction(1), Fraction(1, 10 ** 6)):
                        self.assertEqual(wall_damper(pair(stiff), pair(rub), k, pair(width)), least_damper(own, pair(width)))
                    if k == 0:
                        self.assertEqual(wall_damper(pair(stiff), pair(rub), k, ONE), (O, O))
        low, high = values(wall_damper(ONE, O, 3, (1, 10 ** 6)))
        self.assertTrue(low < 6 <= high)
        self.assertEqual(echoes(wall(ONE, ONE, 2), 5), row(0, 0, 2, 2, 2))
        # The first top of the spring and the damper is 0 twice: one cell less.
        self.assertEqual(wall(TWO, TWO, 1), box([0, 4], [1, -1]))
        for arguments in ((O, O, 0), (LESS, O, 0), (ONE, LESS, 0), (ONE, O, 4), (ONE, O, -1), (ONE, O, True), (1, O, 0)):
            with self.assertRaises(Unfit):
                wall(*arguments)
            with self.assertRaises(Unfit):
                wall_damper(*arguments, ONE)
        with self.assertRaises(Unfit):
            wall_damper(ONE, O, 0, TWO)


if __name__ == "__main__":
    unittest.main()
