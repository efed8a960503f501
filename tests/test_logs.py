"""Point [21]: what a LOG tells."""

import random
import unittest
from fractions import Fraction

from keepcompany.boxes import echoes
from keepcompany.errors import CanNot, NoPaper, TooMany, Unfit
from keepcompany.keepers import is_keeper
from keepcompany.logs import (could_be, echoes_of, is_log, log_end, log_of, logs_agree, next_answer, put_in_of,
                              surely_gives, whoever_could)
from keepcompany.told import can_be, end_box, from_steps, next_stretch, only_one, some_box
from keepcompany.works import is_giving_row

from helpers import (BIG, HALF, LESS, O, ONE, TWO, answers_by_hand, any_fraction, box, pair, row, value, values,
                     work_by_hand)
from makers import HELPED, LOST, damper, keeper, loss_free, mass, small_box, spring

TINY = Fraction(1, BIG)


def some_pushes(chance, many):
    """Pushes of which the first is not 0."""
    return row(*[chance.choice((-2, -1, 1, 2, Fraction(1, 3)))] + [any_fraction(chance) for _ in range(many - 1)])


def log_by_hand(own, pushes):
    return tuple(zip(pushes, row(*answers_by_hand(own, pushes)[0])))


def answers_by_echoes(heard, pushes):
    told, own = values(heard), values(pushes)
    return row(*[sum(told[i - j] * own[j] for j in range(i + 1)) for i in range(len(own))])


def log_by_echoes(heard, pushes):
    return tuple(zip(pushes, answers_by_echoes(heard, pushes)))


class LogTests(unittest.TestCase):

    def test_logs_of_boxes(self):
        chance = random.Random(211)
        for _ in range(120):
            own = small_box(chance, chance.randint(0, 4))
            many = chance.choice((1, 2, 5, 12, 13, 40))
            pushes = some_pushes(chance, many)
            log = log_of(own, pushes)
            self.assertEqual(log, log_by_hand(own, pushes))
            self.assertIs(is_log(log), True)
            self.assertEqual(echoes_of(log), echoes(own, many))
            self.assertEqual(value(put_in_of(log)), work_by_hand(own, pushes))
        for pushes in ((), row(0, 1), (O,), None, (1,), ((2, 2),), ONE):
            with self.assertRaises(Unfit):
                log_of(damper(1), pushes)
        with self.assertRaises(Unfit):
            log_of(box([1, 1], [1, 1]), (ONE,))

    def test_echoes_of_any_log(self):
        chance = random.Random(212)
        for _ in range(120):
            heard = row(*[any_fraction(chance) for _ in range(chance.randint(1, 14))])
            pushes = some_pushes(chance, len(heard))
            self.assertEqual(echoes_of(log_by_echoes(heard, pushes)), heard)
        self.assertEqual(echoes_of(((ONE, O), (ONE, O))), (O, O))
        self.assertEqual(echoes_of((((BIG, 1), (1, BIG)),)), ((1, BIG ** 2),))

    def test_what_is_a_log(self):
        self.assertIs(is_log(((ONE, O),) * 50), True)
        self.assertIs(is_log(((LESS, (BIG ** 3, 1)),)), True)
        good = ((ONE, HALF), (O, TWO))
        self.assertIs(is_log(good), True)
        for wrong in ((), ((O, ONE),), list(good), (list(good[0]), good[1]), ((list(ONE), HALF), (O, TWO)), good[0], ONE,
                      (ONE, HALF), ((ONE,), (O, TWO)), ((ONE, HALF, O),), ((ONE, (2, 2)),), (((True, 1), HALF),),
                      ((ONE, (1, True)),), ((ONE, 1),), (good,), None, True, 7, "1 1", (None,), ((ONE, None),), ((),)):
            self.assertIs(is_log(wrong), False)

    def test_could_be_and_surely_gives(self):
        chance = random.Random(213)
        seen = [0, 0]
        for _ in range(200):
            own = small_box(chance, chance.randint(0, 4)) if chance.random() < 0.6 else keeper(chance)
            many = chance.randint(1, 12)
            log = log_of(own, some_pushes(chance, many))
            if not any(value(answer) for _, answer in log):
                for call in (lambda: could_be(log), lambda: surely_gives(log), lambda: next_answer(log, O),
                             lambda: log_end(log, O, 0)):
                    with self.assertRaises(Unfit):
                        call()
                continue
            told = could_be(log)
            seen[told] += 1
            self.assertIs(told, can_be(echoes(own, many)))
            if told:
                self.judge_could(log)
                continue
            self.assertFalse(is_keeper(own))
            gives = surely_gives(log)
            self.assertEqual(len(gives), many)
            self.assertLess(work_by_hand(own, gives), 0)
            self.assertIs(is_giving_row(own, gives), True)
            for call in (lambda: next_answer(log, ONE), lambda: log_end(log, ONE, 1)):
                with self.assertRaises(CanNot):
                    call()
        self.assertTrue(min(seen) > 50, seen)

    def judge_could(self, log):
        self.assertIs(whoever_could(log), True)
        with self.assertRaises(NoPaper):
            surely_gives(log)
        if len(log) > 1:
            self.assertIs(could_be(log[:-1]), True)
        self.assertIs(could_be(tuple((answer, push) for push, answer in log)), True)

    def test_next_answers(self):
        chance = random.Random(214)
        for _ in range(120):
            heard = from_steps(pair(chance.randint(1, 4)),
                               row(*[Fraction(chance.randint(-9, 9), 10) for _ in range(chance.randint(0, 6))]))
            pushes = some_pushes(chance, len(heard))
            log = log_by_echoes(heard, pushes)
            lengths = set()
            for push in (O, ONE, LESS, pair(any_fraction(chance))):
                low, high = next_answer(log, push)
                lengths.add(value(high) - value(low))
                ends = [answers_by_echoes(heard + (end,), pushes + (push,))[-1] for end in next_stretch(heard)]
                self.assertEqual(sorted([low, high], key=value), sorted(ends, key=value))
                self.assertLess(value(low), value(high))
                for which, end in ((0, low), (1, high)):
                    longer = log_end(log, push, which)
                    self.assertEqual(longer, log + ((push, end),))
                    self.assertIs(could_be(longer), True)
                    # From there on all is told.
                    for after in (O, (5, 3)):
                        self.assertEqual(*next_answer(longer, after))
                    only = only_one(echoes_of(longer))
                    self.assertEqual(log_of(only, pushes + (push,)), longer)
                    following = log_of(only, pushes + (push, ONE, HALF))
                    self.assertEqual(next_answer(following[:-1], HALF)[0], following[-1][1])
                for end in (value(low) - TINY, value(high) + TINY):
                    self.assertIs(could_be(log + ((push, pair(end)),)), False)
                middle = (value(low) + value(high)) / 2
                self.assertIs(could_be(log + ((push, pair(middle)),)), True)
            self.assertEqual(len(lengths), 1)

    def test_first_pushes_below_0_turn_the_ends(self):
        up, down = ((ONE, ONE),), ((LESS, LESS),)
        self.assertEqual(next_answer(up, O), row(-2, 2))
        self.assertEqual(next_answer(down, O), row(-2, 2))
        self.assertEqual(next_answer(up, ONE), row(-1, 3))
        self.assertEqual(next_answer(down, ONE), row(-1, 3))
        self.assertEqual(log_end(down, ONE, 0), ((LESS, LESS), (ONE, LESS)))
        self.assertEqual(only_one(echoes_of(log_end(down, O, 0))), spring(1))
        self.assertEqual(only_one(echoes_of(log_end(up, O, 0))), mass(1))
        # ECHOES 1/2, 1: a spring of 1/2, and no other one.
        self.assertEqual(next_answer((((-3, 1), (-3, 2)), (ONE, (-5, 2))), O), row(-2, -2))

    def test_the_order_of_checks(self):
        long = tuple((ONE, O) for _ in range(13))
        nought = ((ONE, O), (TWO, O))
        for call in (lambda: could_be(long), lambda: surely_gives(long), lambda: next_answer(long, O),
                     lambda: log_end(long, O, 1)):
            with self.assertRaises(TooMany):
                call()
        for call in (lambda: could_be(nought), lambda: surely_gives(nought), lambda: next_answer(nought, O),
                     lambda: log_end(nought, O, 1), lambda: next_answer(long, 0), lambda: log_end(long, O, 2),
                     lambda: log_end(long, None, 0), lambda: log_end(long, O, True), lambda: log_end((), O, 0),
                     lambda: next_answer(((O, O),) * 13, O), lambda: could_be(((O, O),) * 13)):
            with self.assertRaises(Unfit):
                call()
        twelve = log_of(spring(1), (ONE,) * 12)
        self.assertIs(could_be(twelve), True)
        self.assertEqual(next_answer(twelve, O), row(24, 24))
        self.assertEqual(len(log_end(twelve, O, 0)), 13)
        for call in (lambda: could_be(log_end(twelve, O, 0)), lambda: next_answer(log_end(twelve, O, 1), O)):
            with self.assertRaises(TooMany):
                call()
        self.assertEqual(len(echoes_of(long)), 13)
        self.assertEqual(put_in_of(long), O)
        self.assertIs(whoever_could(long), True)

    def test_logs_that_agree(self):
        chance = random.Random(215)
        seen = [0, 0]
        for _ in range(150):
            heard = row(*[any_fraction(chance) for _ in range(8)])
            many, less = chance.randint(1, 8), chance.randint(1, 8)
            other, k = heard, 8
            if chance.random() < 0.5:
                k = chance.randrange(8)
                other = heard[:k] + (pair(value(heard[k]) + chance.choice((1, -1, TINY))),) + heard[k + 1:]
            one = log_by_echoes(heard[:many], some_pushes(chance, many))
            two = log_by_echoes(other[:less], some_pushes(chance, less))
            told = logs_agree(one, two)
            self.assertIs(told, k >= min(many, less))
            self.assertIs(logs_agree(two, one), told)
            seen[told] += 1
        self.assertTrue(min(seen) > 20)
        self.assertIs(logs_agree(log_of(spring(1), (ONE,) * 40), log_of(spring(1), row(*range(1, 36)))), True)
        self.assertIs(logs_agree(((ONE, O),), ((TWO, O), (ONE, O))), True)
        for arguments in ((((O, ONE),), ((ONE, ONE),)), (((ONE, ONE),), ()), (None, ((ONE, ONE),))):
            with self.assertRaises(Unfit):
                logs_agree(*arguments)

    def test_what_was_put_in(self):
        chance = random.Random(216)
        seen = [0, 0]
        for _ in range(150):
            pushes = some_pushes(chance, chance.randint(1, 6))
            answers = row(*[any_fraction(chance) for _ in pushes])
            log = tuple(zip(pushes, answers))
            sums = [sum(a * b for a, b in zip(values(pushes[:k + 1]), values(answers[:k + 1]))) for k in range(len(log))]
            self.assertEqual(value(put_in_of(log)), sums[-1])
            self.assertIs(whoever_could(log), min(sums) >= 0)
            seen[min(sums) >= 0] += 1
        self.assertTrue(min(seen) > 20)
        self.assertIs(whoever_could(((ONE, O), (ONE, O))), True)
        self.assertIs(whoever_could(((ONE, pair(TINY)), (ONE, pair(-TINY)))), True)
        self.assertIs(whoever_could(((ONE, pair(TINY)), (ONE, pair(-2 * TINY)), (ONE, (5, 1)))), False)
        # What could be anybody's need be no KEEPER's.
        odd = ((ONE, ONE), (ONE, (4, 1)))
        self.assertIs(whoever_could(odd), True)
        self.assertIs(could_be(odd), False)

    def test_givers_and_loss_free_ones(self):
        chance = random.Random(217)
        for own in LOST + [one for one, _ in HELPED]:
            log = log_of(own, some_pushes(chance, 12))
            if any(value(answer) for _, answer in log) and not could_be(log):
                self.assertIs(is_giving_row(own, surely_gives(log)), True)
        for _ in range(20):
            own = loss_free(chance)
            cells = len(own[0]) - 1
            pushes = some_pushes(chance, cells + 2)
            log = log_of(own, pushes)
            self.assertEqual(only_one(echoes_of(log)), own)
            self.assertEqual(next_answer(log[:-1], pushes[-1]), (log[-1][1],) * 2)

    def test_fractions_of_whatever_size(self):
        huge = 10 ** 100 + 9
        heard = from_steps((huge, 3), row(Fraction(1, huge), Fraction(-huge, huge + 2), "1/7"))
        pushes = row(Fraction(-1, huge), huge, Fraction(huge, huge + 1), 0)
        log = log_by_echoes(heard, pushes)
        self.assertEqual(echoes_of(log), heard)
        self.assertIs(could_be(log), True)
        own = some_box(heard)
        self.assertEqual(log_of(own, pushes), log)
        for which in (0, 1):
            longer = log_end(log, (huge, 7), which)
            self.assertIs(could_be(longer), True)
            # The first push is below 0: the low answer is the high echo's.
            self.assertEqual(log_of(end_box(heard, 1 - which), pushes + ((huge, 7),)), longer)
        bent = log[:3] + ((O, pair(value(next_answer(log[:3], O)[1]) + Fraction(1, huge ** 5))),)
        self.assertIs(could_be(bent), False)
        self.assertEqual(len(surely_gives(bent)), 4)
        great = tuple((pair(Fraction(k + 1, BIG - k)), pair(Fraction(BIG + k, k + 1))) for k in range(40))
        self.assertEqual(answers_by_echoes(echoes_of(great), tuple(push for push, _ in great)),
                         tuple(answer for _, answer in great))


if __name__ == "__main__":
    unittest.main()
