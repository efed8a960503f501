"""Point [14]: whoever joins, by SCRIPTS, dampers and pushes."""

import random
import unittest
from fractions import Fraction

from keepcompany.boxes import run, summed
from keepcompany.errors import CanNot, Stuck, Unfit
from keepcompany.keepers import is_keeper
from keepcompany.loops import joined_run
from keepcompany.parts import part_box
from keepcompany.stores import store
from keepcompany.whoever import (bound_for, dampers_run, held_still, is_script, is_within, put_in, script_run,
                                 script_worths, stays, worst_exchange)

from helpers import (BIG, HALF, LESS, O, ONE, TWO, answers_by_hand, any_fraction, box, determinant, pair, row, sum_over,
                     table, table_values, value, values, work_by_hand)
from makers import BORDERS, INNER, damper, keeper, mass, small_box, some_amount, spring

FADE = box([1, 0], [1, "-1/2"])
DEEP = ((TWO,),)
ODD = table([[1, 2], [2, 1]])


def some_script(chance, most=4):
    return tuple((chance.randint(1, 4), (chance.choice(("damper", "spring", "mass")), pair(some_amount(chance))))
                 for _ in range(chance.randint(0, most)))


def some_row(chance, many):
    return row(*[any_fraction(chance) for _ in range(many)])


def some_table(chance, many):
    made = [[any_fraction(chance) for _ in range(many)] for _ in range(many)]
    return table([[made[max(i, j)][min(i, j)] for j in range(many)] for i in range(many)])


def script_by_hand(own, cells, script):
    """The pairs (push, answer) and the CELLS ahead of each beat and at the end; None if STUCK."""
    pairs, states = [], [tuple(values(cells))]
    for beats, part in script:
        other = part_box(part)
        lead = 1 + value(own[0][0]) * value(other[0][0])
        beside = (O,) * (len(other[0]) - 1)
        for _ in range(beats):
            now = row(*states[-1])
            back = answers_by_hand(other, (O,), beside)[0][0]
            push = -(back + value(other[0][0]) * answers_by_hand(own, (O,), now)[0][0]) / lead
            answers, end = answers_by_hand(own, (pair(push),), now)
            beside = row(*answers_by_hand(other, row(*answers), beside)[1])
            pairs.append((pair(push), pair(answers[0])))
            states.append(tuple(end))
    return tuple(pairs), states


class WhoeverTests(unittest.TestCase):

    def test_what_is_a_script(self):
        chance = random.Random(141)
        for _ in range(30):
            self.assertIs(is_script(some_script(chance)), True)
        self.assertIs(is_script(((10 ** 9, ("mass", (BIG, 7))),) * 60), True)
        for wrong in (None, True, 5, "damper", [], (1, ("damper", ONE)), ((1, ("damper", ONE), 1),), ((1,),), ((),),
                      ((0, ("damper", ONE)),), ((-1, ("damper", ONE)),), ((True, ("damper", ONE)),),
                      ((ONE, ("damper", ONE)),), ((1, ("damper", O)),), ((1, ("rod", ONE)),), ((1, ["damper", ONE]),),
                      ([1, ("damper", ONE)],), ((1, ("damper", [1, 1])),), [(1, ("damper", ONE))],
                      ((1, ("damper", ONE)), None), (("damper", ONE),)):
            self.assertIs(is_script(wrong), False)

    def test_scripts_beside_the_beats(self):
        chance = random.Random(142)
        stuck = 0
        for _ in range(120):
            own = small_box(chance, chance.randint(0, 4)) if chance.random() < 0.6 else keeper(chance)
            cells, script = some_row(chance, len(own[0]) - 1), some_script(chance)
            if value(own[0][0]) < 0 and chance.random() < 0.5:
                script += ((2, ("mass", pair(-1 / value(own[0][0])))),)
            made = some_table(chance, len(cells))
            if any(value(own[0][0]) * value(part[1]) == -1 for _, part in script):
                stuck += 1
                for call in (lambda: script_run(own, cells, script), lambda: script_worths(own, made, cells, script),
                             lambda: stays(own, made, cells, script),
                             lambda: worst_exchange(own, made, cells, ((), script))):
                    with self.assertRaises(Stuck):
                        call()
                continue
            pairs, states = script_by_hand(own, cells, script)
            self.assertEqual(script_run(own, cells, script), (pairs, row(*states[-1])))
            worths = [sum_over(made, row(*state)) / 2 for state in states]
            self.assertEqual(script_worths(own, made, cells, script), row(*worths))
            self.assertIs(stays(own, made, cells, script), max(worths) == worths[0])
        self.assertTrue(stuck > 3)

    def test_scripts_of_one_part_are_joined_runs(self):
        chance = random.Random(143)
        for _ in range(30):
            own, beats = keeper(chance), chance.randint(1, 6)
            cells = some_row(chance, len(own[0]) - 1)
            for made in (damper(1), spring(2), mass(3)):
                part = {0: "damper", 1: "spring", -1: "mass"}[(made[0] + (O,))[1][0] // made[0][0][0]], made[0][0]
                told = joined_run(own, cells, made, (O,) * (len(made[0]) - 1), beats)
                self.assertEqual(script_run(own, cells, ((beats, part),)), told[:2])
        self.assertEqual(script_run(FADE, (HALF,), ()), ((), (HALF,)))
        self.assertEqual(script_worths(FADE, DEEP, (HALF,), ()), ((1, 4),))
        self.assertIs(stays(FADE, ((LESS,),), (HALF,), ()), True)
        # Begun at REST anew, the spring is not what it was in one go.
        part = ("spring", ONE)
        self.assertNotEqual(script_run(FADE, (ONE,), ((1, part), (1, part))), script_run(FADE, (ONE,), ((2, part),)))

    def test_stuck_ahead_of_any_beat(self):
        for script in (((1, ("damper", ONE)),), ((3, ("spring", HALF)), (1, ("mass", ONE)))):
            for function, given in ((script_run, ()), (script_worths, ((),)), (stays, ((),))):
                with self.assertRaises(Stuck):
                    function(damper(-1), *given, (), script)
        with self.assertRaises(Stuck):
            worst_exchange(damper(-1), (), (), ((), ((1, ("damper", TWO)), (1, ("spring", ONE)))))
        for amounts in (row(1), row(0, 2, 1), row(0, "1/2", 1, 0)):
            with self.assertRaises(Stuck):
                dampers_run(damper(-1), (), amounts)
        self.assertEqual(dampers_run(damper(-1), (), row(0, 2)), (((O, O), (O, O)), ()))

    def test_keepers_stay(self):
        chance = random.Random(144)
        for own in BORDERS + INNER + [keeper(chance) for _ in range(40)]:
            kept = store(own)
            cells = some_row(chance, len(own[0]) - 1)
            bounds = values(bound_for(kept, cells, O))
            script = some_script(chance)
            self.assertIs(stays(own, kept, cells, script), True)
            worths = values(script_worths(own, kept, cells, script))
            self.assertEqual(max(worths), worths[0])
            for state in script_by_hand(own, cells, script)[1]:
                self.assertTrue(all(cell ** 2 <= most for cell, most in zip(state, bounds)))
            amounts = row(*[Fraction(chance.randint(0, 6), chance.randint(1, 3)) for _ in range(6)])
            _, end = dampers_run(own, cells, amounts)
            self.assertLessEqual(sum_over(kept, end) / 2, worths[0])
            pushes = some_row(chance, chance.randint(0, 8))
            self.assertIs(is_within(own, kept, cells, pushes, put_in(own, cells, pushes)), True)
            if own[0][0] != O:
                still = held_still(own, cells, 6)
                self.assertEqual(work_by_hand(own, still, cells), 0)
                _, end = run(own, cells, still)
                self.assertLessEqual(sum_over(kept, end) / 2, worths[0])

    def test_tables_that_are_no_store(self):
        part = (2, ("damper", (1, 3)))
        self.assertIs(stays(spring(1), ((LESS,),), (ONE,), (part,)), False)
        self.assertIs(stays(spring(1), ((O,),), (ONE,), (part,)), True)
        self.assertEqual(script_worths(spring(1), ((LESS,),), (ONE,), (part,)), row("-1/2", "-1/8", "-1/32"))
        # No worth above the first one, but between them it may rise.
        grow = box([1, 0], [1, -2])
        self.assertIs(is_keeper(grow), False)
        self.assertIs(stays(grow, DEEP, (ONE,), ((3, ("damper", HALF)),)), False)

    def test_dampers(self):
        chance = random.Random(145)
        for _ in range(60):
            own = small_box(chance, chance.randint(0, 4))
            cells = some_row(chance, len(own[0]) - 1)
            amounts = [Fraction(chance.randint(0, 5), chance.randint(1, 4)) for _ in range(chance.randint(0, 6))]
            if any(1 + value(own[0][0]) * a == 0 for a in amounts):
                with self.assertRaises(Stuck):
                    dampers_run(own, cells, row(*amounts))
                continue
            pairs, end = dampers_run(own, cells, row(*amounts))
            now = cells
            for (push, answer), amount in zip(pairs, amounts):
                self.assertEqual(value(push), -amount * value(answer))
                answers, now = answers_by_hand(own, (push,), now)
                self.assertEqual(value(answer), answers[0])
                now = row(*now)
            self.assertEqual(len(pairs), len(amounts))
            self.assertEqual(now, end)
        self.assertEqual(dampers_run(FADE, (ONE,), ()), ((), (ONE,)))
        self.assertEqual(dampers_run(spring(1), (ONE,), (O,) * 3), (((O, TWO),) * 3, (ONE,)))
        for amounts in ((LESS,), row(1, "-1/1000"), (5,), ((0, 2),), None):
            with self.assertRaises(Unfit):
                dampers_run(FADE, (ONE,), amounts)

    def test_put_in(self):
        chance = random.Random(146)
        for _ in range(60):
            own = small_box(chance, chance.randint(0, 3))
            cells, pushes = some_row(chance, len(own[0]) - 1), some_row(chance, chance.randint(0, 7))
            wanted = max([Fraction(0)] + [work_by_hand(own, pushes[:k], cells) for k in range(1, len(pushes) + 1)])
            self.assertEqual(value(put_in(own, cells, pushes)), wanted)
        self.assertEqual(put_in(FADE, (ONE,), ()), O)
        self.assertEqual(put_in(damper(-1), (), row(1, 2)), O)

    def test_bounds(self):
        chance = random.Random(147)
        for _ in range(60):
            many = chance.randint(0, 4)
            own, cells, most = some_table(chance, many), some_row(chance, many), abs(any_fraction(chance))
            rows = table_values(own)
            above = all(determinant([line[:k] for line in rows[:k]]) > 0 for k in range(1, many + 1))
            if not above:
                with self.assertRaises(CanNot):
                    bound_for(own, cells, pair(most))
                continue
            whole = sum_over(own, cells) / 2 + most
            told = values(bound_for(own, cells, pair(most)))
            for k in range(many):
                left = [[rows[i][j] for j in range(many) if j != k] for i in range(many) if i != k]
                self.assertEqual(told[k], 2 * whole * determinant(left) / determinant(rows))
        self.assertEqual(bound_for((), (), ONE), ())
        self.assertEqual(bound_for(DEEP, (O,), O), (O,))
        for given in ((ODD, (ONE, ONE), O), (((O,),), (ONE,), O), (((LESS,),), (O,), O)):
            with self.assertRaises(CanNot):
                bound_for(*given)
        for given in ((DEEP, (ONE,), LESS), (DEEP, (ONE,), (-1, BIG)), (DEEP, (ONE, ONE), O), (DEEP, (), O), ((), (ONE,), O)):
            with self.assertRaises(Unfit):
                bound_for(*given)

    def test_within(self):
        tiny = (1, BIG)
        self.assertIs(is_within(spring(1), DEEP, (ONE,), row(2, -5), (8, 1)), True)
        self.assertIs(is_within(spring(1), DEEP, (ONE,), row(2, -5), pair(8 - Fraction(1, BIG))), False)
        self.assertIs(is_within(spring(1), DEEP, (ONE,), row(2, -5), pair(8 + Fraction(1, BIG))), True)
        self.assertIs(is_within(spring(1), DEEP, (O,), (O, O), O), True)
        self.assertIs(is_within(spring(1), DEEP, (O,), (O, tiny), O), False)
        self.assertIs(is_within(spring(1), DEEP, (ONE,), (), O), True)
        # It is asked behind each push, not at the end alone.
        self.assertIs(is_within(spring(1), DEEP, (ONE,), row(2, -3), (7, 1)), False)
        # Each cell counts, not the first one alone.
        two = summed(spring(1), mass(1))
        kept = store(two)
        for pushes in ((), (ONE,)):
            for made in (table([[0, 0], [0, 0]]), table([[1, 1], [1, 1]]), ODD):
                with self.assertRaises(CanNot):
                    is_within(two, made, (ONE, ONE), pushes, ONE)
        chance = random.Random(148)
        for _ in range(40):
            cells, pushes, most = some_row(chance, 2), some_row(chance, 4), abs(any_fraction(chance))
            bounds = values(bound_for(kept, cells, pair(most)))
            met = [answers_by_hand(two, pushes[:k + 1], cells)[1] for k in range(4)]
            wanted = all(cell ** 2 <= bound for state in met for cell, bound in zip(state, bounds))
            self.assertIs(is_within(two, kept, cells, pushes, pair(most)), wanted)
        for most in (LESS, 1, (-1, BIG)):
            with self.assertRaises(Unfit):
                is_within(spring(1), DEEP, (ONE,), (), most)

    def test_worst_exchanges(self):
        chance = random.Random(149)
        for _ in range(40):
            own = keeper(chance) if chance.random() < 0.5 else small_box(chance, chance.randint(0, 3))
            if value(own[0][0]) < 0:
                continue
            cells = some_row(chance, len(own[0]) - 1)
            made = some_table(chance, len(cells))
            scripts = tuple(some_script(chance, 2) for _ in range(chance.randint(1, 5)))
            ends = [sum_over(made, row(*script_by_hand(own, cells, one)[1][-1])) / 2 for one in scripts]
            self.assertEqual(worst_exchange(own, made, cells, scripts), ends.index(max(ends)))
        same = ((1, ("damper", ONE)),)
        self.assertEqual(worst_exchange(spring(1), DEEP, (ONE,), (same, same)), 0)
        self.assertEqual(worst_exchange(spring(1), DEEP, (ONE,), (same, (), ())), 1)
        self.assertEqual(worst_exchange(damper(1), (), (), (same, ())), 0)
        for scripts in ((), None, same, (same, 5), ((same,),)):
            with self.assertRaises(Unfit):
                worst_exchange(spring(1), DEEP, (ONE,), scripts)

    def test_held_still(self):
        chance = random.Random(150)
        for _ in range(50):
            own = small_box(chance, chance.randint(0, 4))
            cells, k = some_row(chance, len(own[0]) - 1), chance.randint(0, 7)
            if own[0][0] == O:
                with self.assertRaises(CanNot):
                    held_still(own, cells, k)
                continue
            told = held_still(own, cells, k)
            self.assertEqual(len(told), k)
            self.assertEqual(answers_by_hand(own, told, cells)[0], [0] * k)
        self.assertEqual(held_still(damper(3), (), 3), (O,) * 3)
        self.assertEqual(held_still(FADE, (ONE,), 0), ())
        self.assertEqual(len(held_still(box([1, BIG], [1, -BIG]), (HALF,), 40)), 40)
        with self.assertRaises(CanNot):
            held_still(box([0, 1], [1, 0]), (ONE,), 0)
        for k in (-1, 41, True, None, ONE):
            with self.assertRaises(Unfit):
                held_still(FADE, (ONE,), k)

    def test_great_numbers(self):
        own, cells = box([BIG, Fraction(1, BIG)], [1, Fraction(-BIG, 3)]), row(BIG)
        script = ((20, ("mass", (BIG, 7))), (20, ("damper", (1, BIG))))
        pairs, states = script_by_hand(own, cells, script)
        self.assertEqual(script_run(own, cells, script), (pairs, row(*states[-1])))
        self.assertIs(is_within(spring(BIG), ((pair(2 * BIG),),), (ONE,), row(*[BIG] * 40), pair(BIG ** 3 * 1700)), True)


if __name__ == "__main__":
    unittest.main()
