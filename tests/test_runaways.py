"""Point [13]: PAIRS, RUNS, and rows made of them."""

import random
import unittest
from fractions import Fraction

from keepcompany.alone import one_part
from keepcompany.boxes import made_small, summed, times, turned
from keepcompany.errors import NoPaper, TooMany, Unfit
from keepcompany.keepers import is_keeper
from keepcompany.loops import is_stuck, loop, pushed_run, runs_away
from keepcompany.numbers import each_once, poly_parted
from keepcompany.parts import part_box, spring_and_mass
from keepcompany.runaways import (growth, is_pair, is_pair_run, near_zero, pair, pair_for_times, pair_loop, pair_near,
                                  pair_run, passes, row_of_pair)
from keepcompany.works import is_giving_row

from complexes import Point, is_pair_by_hand, powers_at
from helpers import BIG, HALF, LESS, O, ONE, TWO, any_fraction, answers_by_hand, box, poly, row, value, values, work_by_hand
from helpers import pair as fraction
from makers import BORDERS, HELPED, INNER, LOST, damper, keeper, less_damper, loss_free, mass, small_box, spring

TWICE = box([0, 0, 1], [1, 0, 0])
TARDY = box([0, 1], [1, "-1/2"])
FOUR = row("10/3", "10/3", 0, 2)
REAL = row("15/2", 0, -2, 0)
PULLS = [spring(-1), mass("-2/3"), summed(spring(-2), mass(-1)), times(turned(summed(spring(1), mass(1))), LESS)]
# GIVERS that give at no real point, so that their PAIRS have b above 0.
TURNING = [TWICE, box([1, 0, 0, 0, "3/2"], [1, 0, 0, 0, 0]), less_damper(box([3, -4, 2], [1, 0, 0]), Fraction(1, 5)),
           less_damper(box([3, -4, 2], [1, 0, 0]), Fraction(1, 10 ** 30)), box([1, 0, 2], [1, 0, "1/4"]),
           less_damper(summed(box([3, -4, 2], [1, 0, 0]), mass(2)), Fraction(1, 10 ** 9)),
           # With masses alone, with springs alone they run away.
           box(["3/2", "-1/2", "1/2"], [1, 1, 0]), box([1, "-1/2", 1], [1, "-3/2", 1])]


def givers(chance, many):
    made = [small_box(chance, chance.randint(0, 4)) for _ in range(many)]
    return LOST + PULLS + TURNING + [own for own, _ in HELPED] + [own for own in made if not is_keeper(own)]


def is_run_by_hand(own, four, told):
    """Whether told is a RUN: each BOX answers as it does alone, and four tells the next cells."""
    p, q, a, b = values(four)
    other = spring_and_mass(four[0], four[1])
    if not any(values(told[0][0] + told[0][1])):
        return False
    for (cells, beside), (now, behind) in zip(told, told[1:]):
        lead = 1 + value(own[0][0]) * value(other[0][0])
        back = answers_by_hand(other, (O,), beside)[0][0]
        held = answers_by_hand(own, (O,), cells)[0][0]
        push = -(back + value(other[0][0]) * held) / lead
        answers, end = answers_by_hand(own, (fraction(push),), cells)
        if row(*end) != now or row(*answers_by_hand(other, row(*answers), beside)[1]) != behind:
            return False
    rows = [values(cells + beside) for cells, beside in told]
    if b == 0:
        return all(y == a * x for last, now in zip(rows, rows[1:]) for x, y in zip(last, now))
    return all(z == 2 * a * y - (a * a + b * b) * x
               for one, last, now in zip(rows, rows[1:], rows[2:]) for x, y, z in zip(one, last, now))


def zero_is_near(own, part, across, up, width):
    """Whether a zero outside is in the square around across and up, by counting in pieces of it."""
    p = each_once(loop(own, part_box(part)))
    return any(abs(z.real - float(value(across))) <= float(width) + 1e-4
               and abs(abs(z.imag) - float(value(up))) <= float(width) + 1e-4
               and abs(z) > 1 - 1e-4 for z in zeros_of(p))


def zeros_of(p):
    """The zeros of a POLY whose zeros are unlike, near enough, by steps all at once."""
    numbers = [complex(float(own)) for own in values(p)]
    numbers = [own / numbers[-1] for own in numbers]
    places = [complex(0.4, 0.9) ** k * (1 + max(abs(own) for own in numbers)) for k in range(len(p) - 1)]
    for _ in range(500):
        for k, z in enumerate(places):
            top, under = 0, 1
            for own in reversed(numbers):
                top = top * z + own
            for j, other in enumerate(places):
                under = under * (z - other) if j != k else under
            places[k] = z - top / under
    return places


class RunawayTests(unittest.TestCase):

    def test_a_pair_for_each_giver(self):
        chance = random.Random(131)
        seen = [0, 0]
        for own in givers(chance, 60):
            four = pair(own)
            self.assertTrue(is_pair_by_hand(own, four), own)
            self.assertIs(is_pair(own, four), True)
            seen[four[3] == O] += 1
            self.judge_loop(own, four)
            self.assertEqual(value(growth(four)), value(four[2]) ** 2 + value(four[3]) ** 2)
            self.assertGreater(value(growth(four)), 1)
            factor = Fraction(chance.randint(1, 9), chance.randint(1, 9))
            other = pair_for_times(fraction(factor), four)
            self.assertEqual(values(other), [value(four[0]) / factor, value(four[1]) / factor] + values(four[2:]))
            self.assertIs(is_pair(times(own, fraction(factor)), other), True)
        self.assertTrue(min(seen) > 5, seen)
        for own in TURNING:
            self.assertNotEqual(pair(own)[3], O)

    def judge_loop(self, own, four):
        other = spring_and_mass(four[0], four[1])
        self.assertFalse(is_stuck(own, other))
        self.assertIs(runs_away(own, other), True)
        told = pair_loop(own, four)
        self.assertEqual(told, loop(own, other))
        a, b = values(four[2:])
        by = row(-a, 1) if b == 0 else row(a * a + b * b, -2 * a, 1)
        self.assertEqual(poly_parted(told, by)[1], ())

    def test_no_pair_for_keepers(self):
        chance = random.Random(132)
        for own in BORDERS + INNER + [keeper(chance) for _ in range(25)] + [loss_free(chance) for _ in range(10)]:
            with self.assertRaises(NoPaper):
                pair(own)
            for _ in range(6):
                four = row(chance.randint(0, 3), chance.randint(1, 3), any_fraction(chance) * 2, chance.randint(0, 2))
                self.assertIs(is_pair(own, four), False)
                self.assertIsNone(pair_near(own, four[2], four[3], chance.randint(0, 30)))
            with self.assertRaises(Unfit):
                pair_loop(own, FOUR)
            with self.assertRaises(Unfit):
                pair_run(own, FOUR, 2)

    def test_what_is_a_pair(self):
        self.assertIs(is_pair(TWICE, FOUR), True)
        self.assertIs(is_pair(TARDY, REAL), True)
        for wrong in (row(3, "10/3", 0, 2), row("10/3", 3, 0, 2), row("10/3", "10/3", "1/10", 2), row(0, 0, 0, 2),
                      row("10/3", "10/3", 0, -2), row(0, 0, 2, 0), FOUR[:3], FOUR + (O,), list(FOUR), None, True,
                      (FOUR,), row("-10/3", "10/3", 0, 2), (5, 5, 0, 2), (["10", 3],) + FOUR[1:]):
            self.assertIs(is_pair(TWICE, wrong), False)
        # On the rim, within it, STUCK.
        self.assertIs(is_pair(box([0, 1], [1, 0]), row(1, 0, 0, 1)), False)
        self.assertIs(is_pair(box([0, 1], [1, "-1/2"]), row("3/16", 0, "1/4", 0)), False)
        self.assertIs(is_pair(spring(-1), row(1, 0, 2, 1)), False)
        self.assertIs(is_pair(spring(-1), row(0, 1, 2, 0)), False)
        self.assertIs(is_pair(spring(-1), row("1/9", 0, 2, 0)), True)
        chance = random.Random(133)
        for own in givers(chance, 10):
            four = pair(own)
            for k in range(4):
                bent = list(four)
                bent[k] = fraction(value(four[k]) + Fraction(1, 10 ** 40))
                self.assertIs(is_pair(own, tuple(bent)), is_pair_by_hand(own, tuple(bent)))

    def test_zeros_near(self):
        chance = random.Random(134)
        for own in givers(chance, 25):
            part = one_part(own)
            if value(part[1]) > 10 ** 6 or value(part[1]) < Fraction(1, 10 ** 6):
                continue
            for width in (Fraction(1), Fraction(1, 10 ** 6)):
                across, up = near_zero(own, part, fraction(width))
                self.assertGreaterEqual(value(up), 0)
                self.assertTrue(zero_is_near(own, part, across, up, width), (own, part))
        # z z z + 8 has -2 and 1 + i times the root of 3.
        cube = box([0, 0, 0, 1], [1, 0, 0, 0])
        for width in (ONE, (1, 1000), (1, 10 ** 6)):
            across, up = values(near_zero(cube, ("damper", (8, 1)), width))
            root = (abs(across + 2) <= value(width) and abs(up) <= value(width))
            pair_of = (abs(across - 1) <= value(width)
                       and (up - value(width)) ** 2 <= 3 or up <= value(width)) and (up + value(width)) ** 2 >= 3
            self.assertTrue(root or pair_of)
        # By a hair outside, and far away.
        hair = Fraction(BIG + 1, BIG)
        across, up = values(near_zero(box([0, 0, 1], [1, 0, 0]), ("damper", fraction(hair)), (1, 10 ** 6)))
        self.assertTrue(abs(across) <= Fraction(1, 10 ** 6) and abs(up - 1) <= Fraction(1, 10 ** 5))
        across, up = values(near_zero(box([0, 1], [1, 0]), ("damper", (BIG, 1)), (1, 10 ** 6)))
        self.assertTrue(abs(across + BIG) <= Fraction(1, 10 ** 6) and up <= Fraction(1, 10 ** 6))
        for own, part in ((box([0, 1], [1, 0]), ("damper", ONE)), (damper(-1), ("mass", ONE)),
                          (damper(1), ("spring", ONE)), (damper(-2), ("damper", HALF))):
            with self.assertRaises(NoPaper):
                near_zero(own, part, ONE)
        for width in (O, TWO, (1, 10 ** 6 + 1)):
            with self.assertRaises(Unfit):
                near_zero(damper(1), ("spring", ONE), width)

    def test_double_zeros(self):
        # The LOOP with a damper of 1 is (z z + 4) (z z + 4) (z - 1 / 2).
        p = values(poly([(4, 0, 1), (4, 0, 1), ("-1/2", 1)]))[::-1]
        own = made_small(box([0, 0, 0, 0, 0, 1], p[:-1] + [p[-1] - 1]))
        across, up = values(near_zero(own, ("damper", ONE), (1, 10 ** 6)))
        self.assertTrue(abs(across) <= Fraction(1, 10 ** 6) and abs(up - 2) <= Fraction(1, 10 ** 6))

    def test_pairs_near(self):
        chance = random.Random(135)
        for own in givers(chance, 12):
            four = pair(own)
            for deep in (0, 3, 30):
                step = Fraction(1, 2 ** deep)
                for a in (0, step, -step):
                    for b in (0, step, -step):
                        across, up = value(four[2]) + a, value(four[3]) + b
                        self.judge_near(own, fraction(across), fraction(abs(up)), deep)
        for _ in range(60):
            own = small_box(chance, chance.randint(0, 3))
            across, up, deep = any_fraction(chance) * 2, abs(any_fraction(chance)), chance.randint(0, 3)
            self.judge_near(own, fraction(across), fraction(up), deep)
        for given in ((O, LESS, 3), (O, (-1, BIG), 3), (O, TWO, 31), (O, TWO, -1), (O, TWO, True), (O, TWO, None), (0, TWO, 3)):
            with self.assertRaises(Unfit):
                pair_near(TWICE, *given)

    def judge_near(self, own, across, up, deep):
        """A PAIR at one of the nine places; none only if each of them has none."""
        step = Fraction(1, 2 ** deep)
        places = [(value(across) + x, abs(value(up) + y)) for x in (0, step, -step) for y in (0, step, -step)]
        told = pair_near(own, across, up, deep)
        if told is not None:
            self.assertTrue(is_pair_by_hand(own, told))
            self.assertIn(tuple(values(told[2:])), places)
            return
        for a, b in places:
            if a * a + b * b <= 1:
                continue
            z = Point(a, b)
            tops, bottoms = powers_at(values(own[0]), z), powers_at(values(own[1]), z)
            if Point(0, 0) in (tops, bottoms):
                continue
            w, edge = bottoms.times(-1).over(tops), z.plus(1).over(z.plus(-1))
            if b == 0:
                self.assertLess(w.a, 0)
                continue
            other = Point(1, 0).over(edge)
            turn = edge.a * other.b - edge.b * other.a
            p, q = (w.a * other.b - w.b * other.a) / turn, (edge.a * w.b - edge.b * w.a) / turn
            self.assertTrue(p < 0 or q < 0 or 1 + value(own[0][0]) * (p + q) == 0)

    def test_runs(self):
        chance = random.Random(136)
        for own in givers(chance, 20):
            four = pair(own)
            for beats in (0, 1, 2, 5):
                told = pair_run(own, four, beats)
                self.assertEqual(len(told), beats + 1)
                self.assertTrue(is_run_by_hand(own, four, told), own)
                self.assertIs(is_pair_run(own, four, told), True)
                self.judge_bent(own, four, told, chance)
        self.assertEqual(len(pair_run(TWICE, FOUR, 40)), 41)
        for beats in (41, -1, True, None):
            with self.assertRaises(Unfit):
                pair_run(TWICE, FOUR, beats)
        for four in (REAL, FOUR[:3] + ((3, 1),), FOUR[:3], None):
            with self.assertRaises(Unfit):
                pair_run(TWICE, four, 3)
            with self.assertRaises(Unfit):
                is_pair_run(TWICE, four, ())

    def judge_bent(self, own, four, told, chance):
        at = chance.randrange(len(told))
        cells, beside = told[at]
        for k in range(len(cells)):
            bent = list(cells)
            bent[k] = fraction(value(cells[k]) + Fraction(1, BIG))
            wrong = told[:at] + ((tuple(bent), beside),) + told[at + 1:]
            self.assertIs(is_pair_run(own, four, wrong), is_run_by_hand(own, four, wrong))
        many = tuple(tuple(O for _ in part) for part in told[0])
        for wrong in ((), list(told), told + (told[0],), (told[0],) + told, (many,) * len(told), told[0], None, True, 5,
                      ((told[0][0],),), tuple(list(state) for state in told), ((told[0][0] + (O,), told[0][1]),),
                      ((told[0][1] + (O,), told[0][0]),), ((list(told[0][0]), told[0][1]),)):
            self.assertIs(is_pair_run(own, four, wrong), False, (own, four, wrong))

    def test_runs_that_beat_but_do_not_follow(self):
        # From other CELLS the beats go on just as well, but not as FOUR tells.
        told = [((ONE, O), (O, O))]
        while len(told) < 5:
            told.append(beats_on(TWICE, spring_and_mass(FOUR[0], FOUR[1]), *told[-1]))
        self.assertIs(is_pair_run(TWICE, FOUR, tuple(told[:1])), True)
        self.assertIs(is_pair_run(TWICE, FOUR, tuple(told[:2])), True)
        self.assertIs(is_pair_run(TWICE, FOUR, tuple(told[:3])), False)
        self.assertIs(is_pair_run(TWICE, FOUR, tuple(told)), False)
        told = [((ONE,), (O,))]
        while len(told) < 3:
            told.append(beats_on(TARDY, spring_and_mass(REAL[0], REAL[1]), *told[-1]))
        self.assertIs(is_pair_run(TARDY, REAL, tuple(told[:1])), True)
        self.assertIs(is_pair_run(TARDY, REAL, tuple(told[:2])), False)

    def test_rows_of_pairs(self):
        chance = random.Random(137)
        seen = [0, 0]
        for own in givers(chance, 20):
            four = pair(own)
            other = spring_and_mass(four[0], four[1])
            if max(len(str(four)), len(str(own))) > 400:
                continue
            for bound in (O, (5, 1), (10 ** 9, 1), (BIG, 1)):
                found = first_below(own, other, value(bound))
                seen[found is None] += 1
                if found is None:
                    with self.assertRaises(TooMany):
                        row_of_pair(own, four, bound)
                    continue
                told = row_of_pair(own, four, bound)
                self.assertTrue(work_by_hand(own, told) < -value(bound))
                self.assertIs(is_giving_row(own, told), True)
        self.assertTrue(min(seen) > 3, seen)
        self.assertTrue(work_by_hand(TWICE, row_of_pair(TWICE, FOUR, (20, 3))) < Fraction(-20, 3))
        # Of the first 60 beats the last one counts, too, and no later one.
        other, works = spring_and_mass(REAL[0], REAL[1]), []
        pairs = pushed_run(TARDY, (O,), other, (O,), (ONE,) + (O,) * 39)
        pairs = pairs[0] + pushed_run(TARDY, pairs[1], other, pairs[2], (O,) * 25)[0]
        for push, answer in pairs:
            works.append((works[-1] if works else 0) + value(push) * value(answer))
        self.assertTrue(all(works[k] > works[k + 1] for k in range(50, 62)))
        self.assertEqual(len(row_of_pair(TARDY, REAL, fraction(-works[58]))), 60)
        self.assertEqual(len(row_of_pair(TARDY, REAL, fraction(-works[57]))), 59)
        with self.assertRaises(TooMany):
            row_of_pair(TARDY, REAL, fraction(-works[59]))
        for bound in (LESS, (-1, BIG), 5, (0, 2)):
            with self.assertRaises(Unfit):
                row_of_pair(TWICE, FOUR, bound)

    def test_passing(self):
        rows = (((O, ONE), (LESS,)), ((), ((-5, 2),)), ((TWO,), ()), (((BIG, 1),), ((-BIG - 1, 1), O)))
        for bound, k in ((O, 0), ((BIG - 1, BIG), 0), (ONE, 1), ((5, 2), 3), ((BIG, 1), 3), ((BIG + 1, 1), None)):
            self.assertEqual(passes(rows, bound), k)
        self.assertIsNone(passes((), O))
        self.assertIsNone(passes((((), ()),), O))
        self.assertIsNone(passes((((O,), (O,)),), O))
        told = pair_run(TWICE, FOUR, 40)
        size = max(abs(own) for own in values(told[0][0] + told[0][1]))
        first = passes(told, fraction(size * 10 ** 9))
        self.assertTrue(20 < first <= 40)
        for wrong in (((ONE,),), (((ONE,), (ONE,), ()),), (((ONE,), ONE),), 5, None, ((((2, 2),), ()),), (((ONE,), None),)):
            with self.assertRaises(Unfit):
                passes(wrong, O)
        for bound in (LESS, 1, (2, 4)):
            with self.assertRaises(Unfit):
                passes(rows, bound)

    def test_quadruples_of_no_box(self):
        self.assertEqual(growth(row(0, 1, 0, 2)), (4, 1))
        self.assertEqual(growth(row(1, 0, BIG, "1/3")), fraction(BIG ** 2 + Fraction(1, 9)))
        self.assertEqual(pair_for_times((3, 1), row(1, 6, -2, 0)), row("1/3", 2, -2, 0))
        for four in (row(0, 0, 0, 2), row(-1, 1, 0, 2), row(1, -1, 0, 2), row(1, 1, 0, -2), row(1, 1, "3/5", "4/5"),
                     row(1, 1, 1, 0), row(1, 1, 0), row(1, 1, 0, 2, 0)):
            with self.assertRaises(Unfit):
                growth(four)
            with self.assertRaises(Unfit):
                pair_for_times(ONE, four)
        for factor in (O, LESS, 1):
            with self.assertRaises(Unfit):
                pair_for_times(factor, FOUR)


def beats_on(own, other, cells, beside):
    lead = 1 + value(own[0][0]) * value(other[0][0])
    back = answers_by_hand(other, (O,), beside)[0][0]
    push = -(back + value(other[0][0]) * answers_by_hand(own, (O,), cells)[0][0]) / lead
    answers, end = answers_by_hand(own, (fraction(push),), cells)
    return row(*end), row(*answers_by_hand(other, row(*answers), beside)[1])


def first_below(own, other, bound):
    """How many beats with the outer pushes 1, 0, .. bring the WORK below; None past 60."""
    work = Fraction(0)
    cells, beside = (O,) * (len(own[0]) - 1), (O,) * (len(other[0]) - 1)
    outer = (ONE,) + (O,) * 19
    for part in range(3):
        pairs, cells, beside = pushed_run(own, cells, other, beside, outer if part == 0 else (O,) * 20)
        for k, (push, answer) in enumerate(pairs):
            work += value(push) * value(answer)
            if work < -bound:
                return 20 * part + k + 1
    return None


if __name__ == "__main__":
    unittest.main()
