"""Point [11]: two BOXES JOINED."""

import random
import unittest
from fractions import Fraction

from keepcompany.boxes import rest
from keepcompany.errors import CanNot, Stuck, Unfit
from keepcompany.keepers import is_keeper
from keepcompany.loops import (is_stuck, joined_beat, joined_bound, joined_gift, joined_run, joined_worth, loop,
                               outside_of, pushed_run, runs_away)
from keepcompany.numbers import zeros_outside
from keepcompany.stores import cell_bounds, store, worth

from helpers import (BIG, HALF, LESS, O, ONE, TWO, answers_by_hand, any_fraction, box, pair, row, sum_over, table,
                     value, values, work_by_hand)
from makers import BORDERS, HELPED, INNER, LOST, damper, keeper, mass, small_box, spring

MINUS = box(["-1/2"], [1])
LAG = box([0, 1], [1, 0])


def some_cells(chance, own):
    return row(*[any_fraction(chance) for _ in range(len(own[0]) - 1)])


def loop_by_hand(one, other):
    """Both products of POLYS, highest power first, added up."""
    def times(p, q):
        out = [Fraction(0)] * (len(p) + len(q) - 1)
        for i, a in enumerate(values(p)):
            for j, b in enumerate(values(q)):
                out[i + j] += a * b
        return out

    both = [a + b for a, b in zip(times(one[1], other[1]), times(one[0], other[0]))][::-1]
    while both and both[-1] == 0:
        both.pop()
    return row(*both)


def joined_by_hand(case, one, cells, other, beside, outers, told):
    """Goes along told, beat by beat: what each BOX answers to its push, and what it is pushed by."""
    pairs, end, end_beside = told
    case.assertIsInstance(pairs, tuple)
    case.assertEqual(len(pairs), len(outers))
    pushes = tuple(own[0] for own in pairs)
    answers, last = answers_by_hand(one, pushes, cells)
    case.assertEqual(row(*answers), tuple(own[1] for own in pairs))
    case.assertEqual(row(*last), end)
    back, last = answers_by_hand(other, row(*answers), beside)
    case.assertEqual(row(*last), end_beside)
    case.assertEqual(values(pushes), [a - b for a, b in zip(values(outers), back)])
    return pushes, answers, back


def two_boxes(chance):
    def some():
        kind = chance.random()
        if kind < 0.5:
            return small_box(chance, chance.randint(0, 4))
        return keeper(chance) if kind < 0.8 else chance.choice(LOST)

    return some(), some()


class LoopTests(unittest.TestCase):

    def test_stuck_pairs(self):
        chance = random.Random(111)
        stuck = 0
        for _ in range(150):
            one, other = two_boxes(chance)
            if chance.random() < 0.3 and one[0][0] != O:
                lead = -1 / value(one[0][0])
                other = ((pair(lead),) + other[0][1:], other[1])
                try:
                    is_stuck(one, other)
                except Unfit:
                    continue
            wanted = 1 + value(one[0][0]) * value(other[0][0]) == 0
            stuck += wanted
            self.assertIs(is_stuck(one, other), wanted)
            self.assertIs(is_stuck(other, one), wanted)
            self.assertEqual(loop(one, other), loop_by_hand(one, other))
            self.assertEqual(loop(one, other), loop(other, one))
            if wanted:
                self.check_stuck(one, other)
            else:
                count = zeros_outside(loop_by_hand(one, other))
                self.assertEqual(outside_of(one, other), count)
                self.assertEqual(outside_of(other, one), count)
                self.assertIs(runs_away(one, other), count > 0)
                self.assertIs(runs_away(other, one), count > 0)
        self.assertTrue(stuck > 15)

    def check_stuck(self, one, other):
        self.assertIs(runs_away(one, other), False)
        cells, beside = rest(one), rest(other)
        for call in (lambda: outside_of(one, other), lambda: joined_beat(one, cells, other, beside),
                     lambda: joined_run(one, cells, other, beside, 0), lambda: joined_run(one, cells, other, beside, 3),
                     lambda: pushed_run(one, cells, other, beside, ()), lambda: joined_gift(one, other, ()),
                     lambda: pushed_run(one, cells, other, beside, (ONE,)), lambda: joined_gift(other, one, (ONE,))):
            with self.assertRaises(Stuck):
                call()

    def test_known_loops(self):
        self.assertEqual(loop(MINUS, damper(2)), ())
        self.assertIs(is_stuck(MINUS, damper(2)), True)
        self.assertEqual(loop(spring(-1), spring(1)), row(0, -4))
        self.assertIs(is_stuck(spring(-1), spring(1)), True)
        self.assertEqual(loop(spring(1), mass(1)), row(-2, 0, 2))
        self.assertEqual(outside_of(spring(1), mass(1)), 0)
        self.assertIs(runs_away(LAG, damper(1)), False)
        self.assertIs(runs_away(LAG, damper(Fraction(BIG + 1, BIG))), True)
        self.assertEqual(outside_of(box([0, 0, 1], [1, 0, 0]), damper(2)), 2)
        great = box([BIG, 1], [1, Fraction(-1, BIG)])
        self.assertEqual(loop(great, great), loop_by_hand(great, great))
        # What is just not STUCK, and just is.
        for shift in (Fraction(1, BIG), -Fraction(1, BIG)):
            self.assertIs(is_stuck(damper(-1), damper(1 + shift)), False)
            self.assertEqual(outside_of(damper(-1), damper(1 + shift)), 0)
        self.assertIs(is_stuck(damper(-BIG), damper(Fraction(1, BIG))), True)

    def test_beats_and_runs(self):
        chance = random.Random(112)
        for _ in range(120):
            one, other = two_boxes(chance)
            cells, beside = some_cells(chance, one), some_cells(chance, other)
            if is_stuck(one, other):
                continue
            beats = chance.choice((0, 1, 2, 3, 7))
            told = joined_run(one, cells, other, beside, beats)
            joined_by_hand(self, one, cells, other, beside, (O,) * beats, told)
            push, answer, now, now_beside = joined_beat(one, cells, other, beside)
            self.assertEqual(joined_run(one, cells, other, beside, 1), (((push, answer),), now, now_beside))
            self.assertEqual(pushed_run(one, cells, other, beside, (O,) * beats), told)
            outers = row(*[any_fraction(chance) for _ in range(chance.randint(0, 6))])
            joined_by_hand(self, one, cells, other, beside, outers, pushed_run(one, cells, other, beside, outers))
            self.assertEqual(joined_run(one, cells, other, beside, 0), ((), cells, beside))
            if beats:
                more = joined_run(one, now, other, now_beside, beats - 1)
                self.assertEqual(((push, answer),) + more[0], told[0])
                self.assertEqual(more[1:], told[1:])

    def test_work_of_both(self):
        chance = random.Random(113)
        for _ in range(80):
            one, other = two_boxes(chance)
            if is_stuck(one, other):
                continue
            outers = row(*[any_fraction(chance) for _ in range(chance.randint(0, 7))])
            told = pushed_run(one, rest(one), other, rest(other), outers)
            pushes, answers, _ = joined_by_hand(self, one, rest(one), other, rest(other), outers, told)
            gift = joined_gift(one, other, outers)
            self.assertEqual(gift, row(work_by_hand(one, pushes), work_by_hand(other, row(*answers))))
            self.assertEqual(sum(values(gift)), sum(r * y for r, y in zip(values(outers), answers)))
            if is_keeper(one) and is_keeper(other):
                self.assertTrue(min(values(gift)) >= 0)
        self.assertEqual(joined_gift(damper(2), damper(3), (ONE,)), ((2, 49), (12, 49)))
        self.assertEqual(joined_gift(damper(2), damper(3), ()), (O, O))

    def test_worths_never_grow(self):
        chance = random.Random(114)
        owns = [keeper(chance) for _ in range(30)] + BORDERS + INNER
        for _ in range(60):
            one, other = chance.choice(owns), chance.choice(owns)
            self.assertIs(is_stuck(one, other), False)
            self.assertIs(runs_away(one, other), False)
            self.assertEqual(outside_of(one, other), 0)
            cells, beside = some_cells(chance, one), some_cells(chance, other)
            kept, kept_too = store(one), store(other)
            first = joined_worth(kept, cells, kept_too, beside)
            self.assertEqual(value(first), value(worth(kept, cells)) + value(worth(kept_too, beside)))
            bound = joined_bound(kept, cells, kept_too, beside)
            self.assertEqual(bound, cell_bounds(kept, first))
            last = value(first)
            now, now_beside = cells, beside
            for _ in range(8):
                for square, most in zip([own ** 2 for own in values(now)], values(bound)):
                    self.assertLessEqual(square, most)
                _, _, now, now_beside = joined_beat(one, now, other, now_beside)
                here = value(joined_worth(kept, now, kept_too, now_beside))
                self.assertLessEqual(here, last)
                last = here

    def test_worths_of_any_tables(self):
        chance = random.Random(115)
        for _ in range(40):
            made = []
            for _ in range(2):
                many = chance.randint(0, 4)
                rows = [[any_fraction(chance) for _ in range(many)] for _ in range(many)]
                own = table([[rows[max(i, j)][min(i, j)] for j in range(many)] for i in range(many)])
                made.extend([own, row(*[any_fraction(chance) for _ in range(many)])])
            wanted = (sum_over(made[0], made[1]) + sum_over(made[2], made[3])) / 2
            self.assertEqual(value(joined_worth(*made)), wanted)
            if wanted < 0:
                with self.assertRaises(CanNot):
                    joined_bound(*made)
        self.assertEqual(joined_worth((), (), (), ()), O)
        self.assertEqual(joined_bound((), (), (), ()), ())
        self.assertEqual(joined_bound(((ONE,),), (O,), ((LESS,),), (O,)), (O,))
        self.assertEqual(joined_bound(((ONE,),), (TWO,), ((LESS,),), (ONE,)), ((3, 1),))
        for given in ((((ONE,),), (O,), ((LESS,),), ((1, BIG),)), (((O,),), (ONE,), (), ()), (((LESS,),), (O,), (), ()),
                      (table([[1, 1], [1, 1]]), row(1, 2), (), ())):
            with self.assertRaises(CanNot):
                joined_bound(*given)
        for given in ((((ONE,),), (), (), ()), ((), (), ((ONE,),), (ONE, ONE)), (table([[1, 2], [3, 1]]), (ONE, ONE), (), ()),
                      ((), (O,), (), ())):
            for function in (joined_worth, joined_bound):
                with self.assertRaises(Unfit):
                    function(*given)

    def test_bounds_of_beats(self):
        one, cells = box([BIG, Fraction(1, BIG)], [1, Fraction(-BIG, 3)]), row(BIG)
        told = joined_run(one, cells, LAG, (HALF,), 40)
        joined_by_hand(self, one, cells, LAG, (HALF,), (O,) * 40, told)
        outers = row(*[BIG - k for k in range(40)])
        joined_by_hand(self, one, cells, LAG, (HALF,), outers, pushed_run(one, cells, LAG, (HALF,), outers))
        for beats in (41, -1, True, None, ONE):
            with self.assertRaises(Unfit):
                joined_run(one, cells, LAG, (HALF,), beats)
        for function, given in ((pushed_run, (one, cells, LAG, (HALF,))), (joined_gift, (one, LAG))):
            function(*given, (ONE,) * 40)
            with self.assertRaises(Unfit):
                function(*given, (ONE,) * 41)
        for given in (((), (HALF,)), ((ONE, ONE), (HALF,)), ((ONE,), ()), ((ONE,), (ONE, O))):
            with self.assertRaises(Unfit):
                joined_run(one, given[0], LAG, given[1], 1)
            with self.assertRaises(Unfit):
                joined_beat(one, given[0], LAG, given[1])

    def test_givers_run_away_with_some(self):
        for own in LOST + [own for own, _ in HELPED]:
            met = [runs_away(own, other) for amount in ("1/100", "1/10", 1, 3, 10, 100, 10 ** 7)
                   for other in (damper(amount), spring(amount), mass(amount))]
            self.assertTrue(any(met) or own == damper("-1/1000000") or own[0][0] == row(-10 ** 9)[0], own)


if __name__ == "__main__":
    unittest.main()
