"""Point [20]: what is in a hole, by the outer echoes."""

import random
import unittest
from fractions import Fraction

from keepcompany.boxes import echoes, late, rest, turned
from keepcompany.curves import is_loss_free
from keepcompany.errors import CanNot, NoPaper, Stuck, TooMany, Unfit
from keepcompany.holes import (could_show, first_strange, inner_echoes, is_first, next_outer, outer_echoes, outer_end,
                               outer_of, same_inside, why_none)
from keepcompany.keepers import is_keeper
from keepcompany.loops import is_stuck, pushed_run
from keepcompany.told import can_be, end_box, from_steps, next_stretch, only_one
from keepcompany.works import is_giving_row

from helpers import (BIG, HALF, LESS, O, ONE, TWO, any_fraction, box, never_below_by_minors, pair, row, value, values)
from makers import BORDERS, HELPED, INNER, LOST, damper, keeper, loss_free, mass, small_box, spring

LAG = box([0, 1], [1, 0])
TINY = Fraction(1, BIG)


def with_first(chance, cells):
    """A SMALL BOX whose tops[0] is not 0."""
    while True:
        own = small_box(chance, cells)
        if own[0][0] != O:
            return own


def outer_by_beats(own, inside, many):
    """The answers of own to the outer pushes 1, 0, .., inside the echoes of what is in the hole."""
    first = value(own[0][0])
    echo = values(echoes(own, many))
    out, pushes = [], []
    for k in range(many):
        # What is known of this beat: own's answer less its push's part, the hole's less its answer's.
        left = sum((echo[j] * pushes[k - j] for j in range(1, k + 1)), Fraction(0))
        back = sum((inside[j] * out[k - j] for j in range(1, k + 1)), Fraction(0))
        outer = 1 if k == 0 else 0
        push = (outer - back - inside[0] * left) / (1 + inside[0] * first)
        pushes.append(push)
        out.append(left + first * push)
    return out


def shown_steps(chance, many):
    return row(*[Fraction(chance.randint(-9, 9), 10) for _ in range(many)])


class OuterTests(unittest.TestCase):

    def test_boxes_with_a_box_in_the_hole(self):
        chance = random.Random(201)
        seen = [0, 0, 0]
        for _ in range(120):
            own, other = small_box(chance, chance.randint(0, 3)), small_box(chance, chance.randint(0, 3))
            if is_stuck(own, other):
                seen[0] += 1
                with self.assertRaises(Stuck):
                    outer_of(own, other)
                continue
            try:
                told = outer_of(own, other)
            except TooMany:
                seen[1] += 1
                self.assertGreater(len(own[0]) + len(other[0]) - 2, 5)
                continue
            seen[2] += 1
            inside = values(echoes(other, 12))
            self.assertEqual(values(echoes(told, 12)), outer_by_beats(own, inside, 12))
            beats = pushed_run(own, rest(own), other, rest(other), (ONE,) + (O,) * 11)[0]
            self.assertEqual(echoes(told, 12), tuple(answer for _, answer in beats))
        self.assertTrue(min(seen[:2]) > 2 and seen[2] > 60, seen)
        self.assertEqual(outer_of(LAG, damper(1)), box([0, 1], [1, 1]))
        # (z + 1) (z + 1) over (z - 1) (z + 1) and (z + 1) (z - 1), added up.
        self.assertEqual(outer_of(spring(1), mass(1)), box(["1/2", "1/2"], [1, -1]))
        with self.assertRaises(Stuck):
            outer_of(damper(-1), spring(1))
        with self.assertRaises(Stuck):
            outer_of(box([-1, 0, 0, 1], [1, 0, 0, 0]), box([1, 0, 0, 1], [1, 0, 0, 0]))
        with self.assertRaises(TooMany):
            outer_of(box([1, 0, 0, 1], [1, 0, 0, 0]), box([1, 0, 0, 1], [1, 0, 0, "1/2"]))

    def test_keepers_in_keepers(self):
        chance = random.Random(202)
        many = 0
        for _ in range(60):
            own, other = keeper(chance), keeper(chance)
            try:
                told = outer_of(own, other)
            except TooMany:
                continue
            many += 1
            self.assertTrue(is_keeper(told))
        self.assertGreater(many, 15)

    def test_echoes_there_and_back(self):
        chance = random.Random(203)
        stuck = 0
        for _ in range(150):
            own = with_first(chance, chance.randint(0, 4))
            many = chance.randint(1, 12)
            inside = [any_fraction(chance) for _ in range(many)]
            first = value(own[0][0])
            if chance.random() < 0.1:
                inside[0] = -1 / first
            if 1 + first * inside[0] == 0:
                stuck += 1
                with self.assertRaises(Stuck):
                    outer_echoes(own, row(*inside))
                continue
            told = outer_echoes(own, row(*inside))
            self.assertEqual(values(told), outer_by_beats(own, inside, many))
            self.assertEqual(inner_echoes(own, told), row(*inside))
        self.assertGreater(stuck, 5)
        # Any ROW that does not begin with 0 is shown by something.
        for _ in range(60):
            own = with_first(chance, chance.randint(0, 4))
            told = row(*[chance.choice((-2, -1, 1, 3))] + [any_fraction(chance) for _ in range(chance.randint(0, 11))])
            self.assertEqual(outer_echoes(own, inner_echoes(own, told)), told)
            self.assertEqual(len(inner_echoes(own, told)), len(told))
        for _ in range(20):
            own = with_first(chance, chance.randint(0, 4))
            self.assertEqual(inner_echoes(own, echoes(own, 12)), (O,) * 12)
            self.assertEqual(outer_echoes(own, (O,) * 12), echoes(own, 12))

    def test_cannot(self):
        nought = (O, ONE)
        for own, outer in ((LAG, (ONE,)), (damper(1), nought), (LAG, nought), (late(spring(2), 1), (ONE, ONE)),
                           (damper(1), (O,) * 12)):
            for call in (lambda: inner_echoes(own, outer), lambda: could_show(own, outer), lambda: why_none(own, outer),
                         lambda: first_strange(own, outer), lambda: next_outer(own, outer),
                         lambda: outer_end(own, outer, 0), lambda: same_inside(own, outer, damper(1), (ONE,)),
                         lambda: same_inside(damper(1), (ONE,), own, outer)):
                with self.assertRaises(CanNot):
                    call()
        for call in (lambda: outer_echoes(LAG, (ONE,)), lambda: outer_echoes(LAG, nought), lambda: is_first(LAG, ONE),
                     lambda: is_first(LAG, O)):
            with self.assertRaises(CanNot):
                call()
        # Unfit goes ahead, whatever stands behind it.
        for call in (lambda: inner_echoes(LAG, ()), lambda: could_show(LAG, (ONE,) * 13), lambda: is_first(LAG, 1),
                     lambda: outer_end(LAG, nought, 2), lambda: outer_end(damper(1), (O,), True),
                     lambda: same_inside(LAG, nought, damper(1), ()), lambda: same_inside(LAG, nought, None, (ONE,)),
                     lambda: outer_echoes(damper(-1), (ONE, 5)), lambda: outer_of(damper(-1), None),
                     lambda: next_outer(box([1, 1], [1, 1]), (ONE,))):
            with self.assertRaises(Unfit):
                call()
        self.assertEqual(outer_echoes(damper(1), nought), row(1, -1))
        with self.assertRaises(Stuck):
            outer_echoes(damper(-1), row(1, 5))


class ShowTests(unittest.TestCase):

    def judge(self, own, outer):
        within = inner_echoes(own, outer)
        nothing = not any(values(within))
        shows = nothing or can_be(within)
        self.assertIs(could_show(own, outer), shows)
        strange = [m for m in range(1, len(outer) + 1) if any(values(within[:m])) and not can_be(within[:m])]
        self.assertEqual(first_strange(own, outer), strange[0] if strange else None)
        if shows:
            with self.assertRaises(NoPaper):
                why_none(own, outer)
            self.judge_next(own, outer, within, nothing)
            return
        told = why_none(own, outer)
        self.assertEqual(len(told), len(outer))
        work = sum(x * sum(value(within[i - j]) * y for j, y in enumerate(values(told[:i + 1])))
                   for i, x in enumerate(values(told)))
        self.assertLess(work, 0)
        for call in (lambda: next_outer(own, outer), lambda: outer_end(own, outer, 0), lambda: outer_end(own, outer, 1)):
            with self.assertRaises(CanNot):
                call()

    def judge_next(self, own, outer, within, nothing):
        low, high = values(next_outer(own, outer))
        least, most = (Fraction(0), Fraction(0)) if nothing else values(next_stretch(within))
        self.assertEqual(high - low, (most - least) * value(outer[0]) ** 2)
        for which, end, inner in ((0, low, most), (1, high, least)):
            held = outer_end(own, outer, which)
            if nothing:
                self.assertIsNone(held)
                self.assertEqual(outer + (pair(end),), echoes(own, len(outer) + 1))
                continue
            self.assertTrue(is_loss_free(held))
            inside = values(echoes(held, len(outer) + 1))
            self.assertEqual(inside[-1], inner)
            self.assertEqual(outer_by_beats(own, inside, len(outer) + 1), values(outer) + [end])
        if len(outer) < 12:
            for end in (low, high, (low + high) / 2):
                self.assertIs(could_show(own, outer + (pair(end),)), True)
            for end in (low - TINY, high + TINY):
                self.assertIs(could_show(own, outer + (pair(end),)), False)
                self.assertEqual(first_strange(own, outer + (pair(end),)), len(outer) + 1)

    def test_whatever_is_shown(self):
        chance = random.Random(204)
        seen = [0, 0]
        for _ in range(150):
            own = with_first(chance, chance.randint(0, 4)) if chance.random() < 0.6 else keeper(chance)
            outer = row(*[chance.choice((-2, -1, 1, 3, Fraction(1, 2)))]
                        + [any_fraction(chance) for _ in range(chance.randint(0, 5))])
            self.judge(own, outer)
            seen[could_show(own, outer)] += 1
        self.assertTrue(min(seen) > 15, seen)

    def test_keepers_in_the_hole(self):
        chance = random.Random(205)
        for _ in range(50):
            own = with_first(chance, chance.randint(0, 4)) if chance.random() < 0.5 else keeper(chance)
            held = chance.choice((keeper, loss_free))(chance)
            if is_stuck(own, held):
                continue
            for many in (1, 3, 6, 12):
                outer = row(*outer_by_beats(own, values(echoes(held, many)), many))
                self.assertIs(could_show(own, outer), True)
                self.judge(own, outer)
                low, high = values(next_outer(own, outer))
                following = outer_by_beats(own, values(echoes(held, many + 1)), many + 1)[-1]
                self.assertTrue(low <= following <= high)
        for own in (with_first(chance, 2), with_first(chance, 0)):
            self.judge(own, echoes(own, 5))

    def test_givers_in_the_hole(self):
        chance = random.Random(206)
        seen = 0
        for held in LOST + [one for one, _ in HELPED]:
            own = with_first(chance, chance.randint(0, 3))
            if is_stuck(own, held):
                continue
            outer = row(*outer_by_beats(own, values(echoes(held, 12)), 12))
            if not could_show(own, outer):
                seen += 1
                self.assertIs(is_giving_row(held, why_none(own, outer)), True)
                self.judge(own, outer)
        self.assertGreater(seen, 10)

    def test_ends_of_the_only_one(self):
        own, outer = damper(1), row("1/2", "-1/2", 0)
        self.assertEqual(inner_echoes(own, outer), row(1, 2, 2))
        for which in (0, 1):
            self.assertEqual(outer_end(own, outer, which), spring(1))
        self.assertEqual(next_outer(own, outer), (O, O))
        self.assertEqual(outer_end(own, (HALF,), 0), spring(1))
        self.assertEqual(outer_end(own, (HALF,), 1), mass(1))
        self.assertEqual(next_outer(own, (HALF,)), row("-1/2", "1/2"))
        self.assertEqual(first_strange(own, row(1, 0, 0)), None)
        self.assertEqual(first_strange(own, row(1, 0, "1/9")), 3)
        self.assertEqual(first_strange(own, row(2, 0)), 1)

    def test_first_ones(self):
        chance = random.Random(207)
        for _ in range(150):
            own, number = with_first(chance, chance.randint(0, 3)), any_fraction(chance, 4, 3)
            told = is_first(own, pair(number))
            if number == 0:
                self.assertIs(told, False)
                continue
            self.assertIs(told, could_show(own, (pair(number),)))
            self.assertIs(told, 1 / number >= 1 / value(own[0][0]))
        for number, wanted in ((TWO, True), ((BIG, BIG + 1), True), (pair(2 + TINY), False), (pair(2 - TINY), True),
                               (LESS, False), (O, False), (pair(TINY), True)):
            self.assertIs(is_first(damper(2), number), wanted)
        # Below 0 more in the hole brings it on, through what is without end.
        for number, wanted in (((-2, 1), True), ((-1, 1), False), ((-3, 1), True), (ONE, True), (O, False)):
            self.assertIs(is_first(damper(-2), number), wanted)

    def test_one_inside_of_two(self):
        chance = random.Random(208)
        seen = [0, 0]
        for _ in range(150):
            own, other = with_first(chance, chance.randint(0, 3)), with_first(chance, chance.randint(0, 3))
            held = from_steps(pair(chance.randint(1, 3)), shown_steps(chance, 5))
            many, less = chance.randint(1, 6), chance.randint(1, 6)
            if chance.random() < 0.4:
                k = chance.randrange(6)
                held_too = held[:k] + (pair(value(held[k]) + chance.choice((1, -1, TINY))),) + held[k + 1:]
            else:
                k, held_too = 6, held
            if any(1 + value(one[0][0]) * value(two[0]) == 0 for one, two in ((own, held), (other, held_too))):
                continue
            here, there = outer_echoes(own, held[:many]), outer_echoes(other, held_too[:less])
            both = held[:many] if many > less else held_too[:less]
            wanted = (k >= min(many, less)) and can_be(both) if any(values(both)) else True
            told = same_inside(own, here, other, there)
            self.assertIs(told, wanted)
            self.assertIs(same_inside(other, there, own, here), told)
            seen[told] += 1
        self.assertTrue(min(seen) > 15, seen)
        # Nothing in both, nothing in one alone, and one that only the longer one tells not to be.
        own, other = spring(1), damper(3)
        self.assertIs(same_inside(own, echoes(own, 4), other, echoes(other, 7)), True)
        self.assertIs(same_inside(own, echoes(own, 4), other, (ONE,)), False)
        self.assertIs(same_inside(own, echoes(own, 1), other, outer_echoes(other, row(0, 1))), False)
        self.assertIs(same_inside(own, outer_echoes(own, (ONE,)), other, outer_echoes(other, row(1, 3))), False)
        self.assertIs(same_inside(own, outer_echoes(own, row(1, 3)), other, outer_echoes(other, row(1, 3))), False)
        self.assertIs(same_inside(own, outer_echoes(own, row(1, 2)), other, outer_echoes(other, row(1, 2, 2))), True)

    def test_boxes_of_twelve_cells(self):
        heard = from_steps(ONE, shown_steps(random.Random(209), 11))
        own = end_box(heard, 1)
        self.assertEqual(len(own[0]) - 1, 12)
        outer = outer_echoes(own, heard)
        self.assertEqual(inner_echoes(own, outer), heard)
        self.judge(own, outer)
        self.assertEqual(outer_end(own, outer, 0), end_box(heard, 1))
        with self.assertRaises(TooMany):
            outer_of(own, damper(1))
        self.assertIs(is_first(own, HALF), True)
        whole = outer_echoes(own, echoes(own, 12))
        self.assertIsNone(only_one(inner_echoes(own, whole)))
        self.assertIs(same_inside(own, outer, damper(2), outer_echoes(damper(2), heard)), True)

    def test_fractions_of_whatever_size(self):
        huge = 10 ** 120 + 7
        for own in (damper(Fraction(huge, 3)), box([Fraction(1, huge), 5], [1, Fraction(huge, 11)])):
            for heard in (row(Fraction(huge, 9), 1, Fraction(1, huge)), row(Fraction(1, huge), Fraction(1, huge), 1)):
                outer = outer_echoes(own, heard)
                self.assertEqual(values(outer), outer_by_beats(own, values(heard), 3))
                self.assertEqual(inner_echoes(own, outer), heard)
                self.assertIs(could_show(own, outer), never_below_by_minors(
                    [[2 * value(heard[0]) if i == j else value(heard[abs(i - j)]) for j in range(3)] for i in range(3)]))
                self.judge(own, outer)


class KnownTests(unittest.TestCase):

    def test_turned_and_holes(self):
        # A damper 1 in the hole of a turned BOX: what is turned and added up is turned.
        chance = random.Random(210)
        for _ in range(30):
            own = with_first(chance, chance.randint(0, 3))
            if value(own[0][0]) == -1:
                continue
            told = outer_of(own, damper(1))
            back = turned(own)
            added = (row(*[a + b for a, b in zip(values(back[0]), values(back[1]))]), back[1])
            self.assertEqual(turned(added), told)

    def test_borders(self):
        for own in BORDERS + INNER:
            if own[0][0] != O:
                for number in (own[0][0], pair(value(own[0][0]) / 2)):
                    self.assertIs(is_first(own, number), True)
                self.assertIs(is_first(own, pair(value(own[0][0]) + TINY)), False)
                outer = outer_echoes(own, (ONE, ONE, HALF))
                self.assertIs(could_show(own, outer), True)


if __name__ == "__main__":
    unittest.main()
