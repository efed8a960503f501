"""The examples of the document, each as it stands there."""

import unittest

from keepcompany import boxes, curves, keepers, numbers, stores, works

from doc_examples import check_examples, names_of, pairs_of

BOXES = """
>>> spring, half = (((1, 1), (1, 1)), ((1, 1), (-1, 1))), (((1, 2),), ((1, 1),))
>>> beat(spring, ((0, 1),), (1, 1)), run(spring, ((0, 1),), ((1, 1), (0, 1), (-1, 1))), run(half, (), ())
(((1, 1), ((1, 1),)), (((1, 1), (2, 1), (1, 1)), ((0, 1),)), ((), ()))
>>> echoes(spring, 4), rest(spring), rest(half)
(((1, 1), (2, 1), (2, 1), (2, 1)), ((0, 1),), ())
>>> wide = (((1, 1), (0, 1), (-1, 1)), ((1, 1), (-2, 1), (1, 1)))
>>> is_small(wide), made_small(wide) == spring, echoes(wide, 4) == echoes(spring, 4), beat(wide, ((1, 1), (1, 1)), (0, 1))
(False, True, True, ((0, 1), ((1, 1), (1, 1))))
>>> [is_box(own) for own in (half, (((0, 1),), ((1, 1),)), (((1, 1),), ((2, 1),)), (((1, 1),), ((1, 1), (0, 1))), list(half))]
[True, False, False, False, False]
>>> summed(spring, half), times(half, (-4, 1)), turned(spring), turned(half)
((((3, 2), (1, 2)), ((1, 1), (-1, 1))), (((-2, 1),), ((1, 1),)), (((1, 1), (-1, 1)), ((1, 1), (1, 1))), (((2, 1),), ((1, 1),)))
>>> late(spring, 1), late(half, 2), echoes(late(spring, 1), 4)
((((0, 1), (1, 1), (1, 1)), ((1, 1), (-1, 1), (0, 1))), (((0, 1), (0, 1), (1, 2)), ((1, 1), (0, 1), (0, 1))), ((0, 1), (1, 1), (2, 1), (2, 1)))
>>> summed(spring, times(spring, (-1, 1)))
raises CanNot()
>>> turned(late(spring, 1))
raises CanNot()
>>> late(spring, 5)
raises TooMany()
"""

NUMBERS = """
>>> p, two = ((6, 1), (-9, 1), (0, 1), (3, 1)), ((-2, 1), (0, 1), (1, 1))
>>> poly_sum(((1, 1), (1, 1)), ((1, 1), (-1, 1))), poly_times(((1, 1), (1, 2)), ((-2, 1), (1, 1))), poly_parted(two, ((2, 1), (1, 1)))
(((2, 1),), ((-2, 1), (0, 1), (1, 2)), (((-2, 1), (1, 1)), ((2, 1),)))
>>> by_multiplicity(p), each_once(p), common_part(p, ((2, 1), (-2, 1))), value_at(p, (1, 2))
(((((2, 1), (1, 1)), 1), (((-1, 1), (1, 1)), 2)), ((-2, 1), (1, 1), (1, 1)), ((-1, 1), (1, 1)), (15, 8))
>>> roots_between(p, (-3, 1), (3, 1)), roots_between(p, (-2, 1), (1, 1)), roots_between(two, (0, 1), (2, 1)), root_spans(two, (2, 1), (3, 1), (1, 9))
(2, 0, 1, ())
>>> [(value_at(two, l)[0] < 0, value_at(two, r)[0] > 0) for l, r in root_spans(two, (0, 1), (2, 1), (1, 100))]
[(True, True)]
>>> flat, odd = (((2, 1), (1, 1)), ((1, 1), (1, 1))), (((1, 1), (2, 1)), ((2, 1), (1, 1)))
>>> never_below(flat), never_below(odd), never_below(()), solved(flat, ((1, 1), (0, 1))), solved((((0, 1),),), ((1, 1),))
(True, False, True, ((1, 1), (-1, 1)), None)
>>> [zeros_outside(own) for own in (two, p, ((1, 1), (0, 1), (1, 1)), ((-2, 1), (1, 1), (-2, 1), (1, 1)), ((5, 1),))]
[2, 1, 0, 1, 0]
>>> row_below(flat)
raises NoPaper()
>>> zeros_outside(())
raises CanNot()
"""

WORKS = """
>>> none, one, two, less = (0, 1), (1, 1), (2, 1), (-1, 1)
>>> spring, lag = ((one, one), (one, less)), ((none, one), (one, none))
>>> work_of(spring, (none,), (one, one)), work_of(spring, (one,), (less,)), work_sums(lag, (none,), (one, less, none))
((4, 1), (-1, 1), ((0, 1), (-1, 1), (-1, 1)))
>>> even_table((one, (1, 3))), work_by_table((one, two, two), (one, less)), work_by_table((one, two, two), (one, one, one))
((((2, 1), (1, 3)), ((1, 3), (2, 1))), (0, 1), (9, 1))
>>> [gives_within(lag, k) for k in (0, 1, 2, 3)], gives_within(spring, 9), first_gift(lag, 5), first_gift(lag, 1), first_gift(spring, 9)
([False, False, True, True], False, 2, None, None)
>>> is_giving_row(lag, giving_row(lag, 2)), [is_giving_row(lag, own) for own in ((one, less), (one, one), (), (one, [-1, 1]))]
(True, [True, False, False, False])
>>> giving_row(spring, 4)
raises NoPaper()
>>> turned_row(spring, (one, none, none)), work_of_sum(spring, lag, (one, less))
(((1, 1), (2, 1), (2, 1)), ((0, 1), (-1, 1)))
>>> turned_row(lag, (one,))
raises CanNot()
"""

CURVES = """
>>> o, one, two, less, half = (0, 1), (1, 1), (2, 1), (-1, 1), (1, 2)
>>> rub, push, ramp, slow = ((two,), (one,)), ((less,), (one,)), ((one, o), (one, less)), ((o, one), (one, o))
>>> soft, mean = ((one, half), (one, (1, 3))), ((half, half), (one, o))
>>> kiss, spring = (((3, 1), (-4, 1), two), (one, o, o)), ((one, one), (one, less))
>>> slants(soft), curve(soft), curve_at(soft, less), slants(slow), curve(slow)
(((7, 3), (5, 6)), ((7, 3), (5, 3)), (2, 3), ((0, 1), (1, 1)), ((0, 1), (2, 1)))
>>> slants(kiss), curve(kiss), curve_at(kiss, (1, 4)), curve(rub), slants(spring), curve(spring)
(((6, 1), (-4, 1), (2, 1)), ((2, 1), (-8, 1), (8, 1)), (1, 2), ((4, 1),), ((0, 1), (0, 1)), ())
>>> [curve_below(own) for own in (rub, soft, kiss, spring)], curve_at(slow, curve_below(slow))[0] < 0
([None, None, None, None], True)
>>> parts_of_curve(kiss), parts_of_curve(mean)
(((0, 0), ((-1, 2), (1, 1)), ((8, 1),)), ((0, 1), ((1, 1),), ((1, 1),)))
>>> parts_of_curve(ramp), len(touches(kiss, (1, 8))), touches(ramp, one)
(((1, 0), ((1, 1),), ((2, 1),)), 1, ())
>>> [is_loss_free(own) for own in (spring, rub, rim_pair(half))], rim_pair(half)
([True, False, True], (((1, 1), (0, 1), (-1, 1)), ((1, 1), (-1, 1), (1, 1))))
>>> curve_of_sum(spring, soft), curve_of_sum(mean, slow), curve_of_sum(rub, (((-2, 1),), (one,)))
(((14, 3), (-4, 3), (-10, 3)), ((1, 1), (3, 1)), ())
>>> parts_of_curve(slow)
raises CanNot()
>>> touches(spring, one)
raises CanNot()
"""

STORES = """
>>> o, one, two, less, half = (0, 1), (1, 1), (2, 1), (-1, 1), (1, 2)
>>> fade, ring = ((one, o), (one, (-1, 2))), ((one, o, less), (one, (-6, 5), one))
>>> [is_store(fade, ((own,),)) for own in (one, (1, 10), two, (1, 7))], is_store(fade, store_by(fade, square_gap(fade)))
([True, False, False, True], True)
>>> gap_of(fade, ((one,),)), store_by(fade, (((3, 2), (-1, 2)), ((-1, 2), half)))
((((1, 1), (-1, 2)), ((-1, 2), (1, 1))), (((1, 2),),))
>>> leaf = ((one, (one, (-1, 2))), ((3, 4), (one, o)))
>>> are_squares((two, (-1, 2)), leaf), are_squares((two, half), leaf), are_squares((two, (-1, 2)), squares_for((two, (-1, 2))))
(True, False, True)
>>> worth(((two, one), (one, two)), (one, two)), cell_bounds(((two, one), (one, one)), (3, 1))
((7, 1), ((6, 1), (12, 1)))
>>> loss_free_store(ring), stores_mixed(((one,),), (((1, 7),),), half)
((((2, 1), (-6, 5)), ((-6, 5), (2, 1))), (((4, 7),),))
>>> store_of_turned(((two, o), (one, (-1, 2))), ((two,),)), store(((two,), (one,)))
((((1, 2),),), ())
>>> store(((less,), (one,)))
raises NoPaper()
>>> squares_for((two, (-1, 1)))
raises CanNot()
"""

KEEPERS = """
>>> soft, torn = (((1, 1), (0, 1)), ((1, 1), (1, 2))), (((1, 1), (3, 1)), ((1, 1), (0, 1)))
>>> far, coil = (((0, 1), (2, 1)), ((1, 1), (2, 1))), (((1, 1), (1, 1)), ((1, 1), (-1, 1)))
>>> [is_keeper(own) for own in (soft, torn, far, coil)], keepers_of((torn, soft, far, coil))
([True, False, False, True], (1, 3))
>>> [is_paper(soft, ("store", ((own,),))) for own in ((1, 1), (2, 1))], [is_paper(own, ("damper",)) for own in (soft, torn, far)]
([True, False], [False, True, True])
>>> [is_paper(torn, ("curve", own)) for own in ((-1, 2), (-1, 3), (-2, 1))], why_not(far)
([True, False, False], ('damper',))
>>> [keeps_by_rows(torn, own) for own in (0, 1, 2)], [is_border(own) for own in (soft, coil, torn)], echo_bound(soft)
([True, True, False], [False, True, False], (2, 1))
>>> keeps_turned(soft), nearest_keeper(soft, (1, 1)) == soft, nearest_keeper(torn, (1, 2))[0][1], is_keeper(nearest_keeper(torn, (1, 2)))
(True, True, (3, 1), True)
>>> why_not(coil)
raises NoPaper()
>>> nearest_keeper(far, (1, 1))
raises NoPaper()
"""

# In the order of the document: a name is that of the nearest example ahead.
SECTIONS = [("boxes", BOXES), ("numbers", NUMBERS), ("works", WORKS), ("curves", CURVES),
            ("stores", STORES), ("keepers", KEEPERS)]


class ExampleTests(unittest.TestCase):

    def test_every_example(self):
        names = names_of([boxes, curves, keepers, numbers, stores, works])
        for section, text in SECTIONS:
            with self.subTest(section=section):
                check_examples(self, text, names)

    def test_the_runner_sees_what_differs(self):
        self.assertEqual(pairs_of(">>> a = 1\n>>> a\n1"), [["a = 1", None], ["a", "1"]])
        for text in (">>> 1 + 1\n3", ">>> (1, 2)\n[1, 2]", ">>> 1\nraises CanNot()"):
            result = unittest.TestResult()

            class Wrong(unittest.TestCase):
                def runTest(self):
                    check_examples(self, text, {})

            Wrong().run(result)
            self.assertFalse(result.wasSuccessful())


if __name__ == "__main__":
    unittest.main()
