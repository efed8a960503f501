"""The examples of the document, each as it stands there."""

import pathlib
import unittest

from keepcompany import (alone, boxes, curves, desk, drawn, holes, judge, keepers, logs, loops, mixtures, numbers,
                         office, parts, runaways, shares, stores, takings, texts, told, whoever, works)

from doc_examples import check_examples, names_of, pairs_of

BOXES = """
>>> spring, half = (((1, 1), (1, 1)), ((1, 1), (-1, 1))), (((1, 2),), ((1, 1),))
>>> beat(spring, ((0, 1),), (1, 1)), run(spring, ((0, 1),), ((1, 1), (0, 1), (-1, 1))), run(half, (), ())
(((1, 1), ((1, 1),)), (((1, 1), (2, 1), (1, 1)), ((0, 1),)), ((), ()))
>>> echoes(spring, 4), rest(spring), rest(half)
(((1, 1), (2, 1), (2, 1), (2, 1)), ((0, 1),), ())
>>> wide = (((1, 1), (0, 1), (-1, 1)), ((1, 1), (-2, 1), (1, 1)))
>>> is_small(wide), made_small(wide) == spring, echoes(wide, 4) == echoes(spring, 4), beat(wide, ((1, 1), (1, 1)), (0, 1))
(False, True, True, ((0, 1), ((1, 1), (1, 1))))
>>> [is_box(own) for own in (half, (((0, 1),), ((1, 1),)), (((1, 1),), ((2, 1),)), (((1, 1),), ((1, 1), (0, 1))), list(half))]
[True, False, False, False, False]
>>> summed(spring, half), times(half, (-4, 1)), turned(spring), turned(half)
((((3, 2), (1, 2)), ((1, 1), (-1, 1))), (((-2, 1),), ((1, 1),)), (((1, 1), (-1, 1)), ((1, 1), (1, 1))), (((2, 1),), ((1, 1),)))
>>> late(spring, 1), late(half, 2), echoes(late(spring, 1), 4)
((((0, 1), (1, 1), (1, 1)), ((1, 1), (-1, 1), (0, 1))), (((0, 1), (0, 1), (1, 2)), ((1, 1), (0, 1), (0, 1))), ((0, 1), (1, 1), (2, 1), (2, 1)))
>>> summed(spring, times(spring, (-1, 1)))
raises CanNot()
>>> turned(late(spring, 1))
raises CanNot()
>>> late(spring, 5)
raises TooMany()
"""

NUMBERS = """
>>> p, two = ((6, 1), (-9, 1), (0, 1), (3, 1)), ((-2, 1), (0, 1), (1, 1))
>>> poly_sum(((1, 1), (1, 1)), ((1, 1), (-1, 1))), poly_times(((1, 1), (1, 2)), ((-2, 1), (1, 1))), poly_parted(two, ((2, 1), (1, 1)))
(((2, 1),), ((-2, 1), (0, 1), (1, 2)), (((-2, 1), (1, 1)), ((2, 1),)))
>>> by_multiplicity(p), each_once(p), common_part(p, ((2, 1), (-2, 1))), value_at(p, (1, 2))
(((((2, 1), (1, 1)), 1), (((-1, 1), (1, 1)), 2)), ((-2, 1), (1, 1), (1, 1)), ((-1, 1), (1, 1)), (15, 8))
>>> roots_between(p, (-3, 1), (3, 1)), roots_between(p, (-2, 1), (1, 1)), roots_between(two, (0, 1), (2, 1)), root_spans(two, (2, 1), (3, 1), (1, 9))
(2, 0, 1, ())
>>> [(value_at(two, l)[0] < 0, value_at(two, r)[0] > 0) for l, r in root_spans(two, (0, 1), (2, 1), (1, 100))]
[(True, True)]
>>> flat, odd = (((2, 1), (1, 1)), ((1, 1), (1, 1))), (((1, 1), (2, 1)), ((2, 1), (1, 1)))
>>> never_below(flat), never_below(odd), never_below(()), solved(flat, ((1, 1), (0, 1))), solved((((0, 1),),), ((1, 1),))
(True, False, True, ((1, 1), (-1, 1)), None)
>>> [zeros_outside(own) for own in (two, p, ((1, 1), (0, 1), (1, 1)), ((-2, 1), (1, 1), (-2, 1), (1, 1)), ((5, 1),))]
[2, 1, 0, 1, 0]
>>> row_below(flat)
raises NoPaper()
>>> zeros_outside(())
raises CanNot()
"""

WORKS = """
>>> none, one, two, less = (0, 1), (1, 1), (2, 1), (-1, 1)
>>> spring, lag = ((one, one), (one, less)), ((none, one), (one, none))
>>> work_of(spring, (none,), (one, one)), work_of(spring, (one,), (less,)), work_sums(lag, (none,), (one, less, none))
((4, 1), (-1, 1), ((0, 1), (-1, 1), (-1, 1)))
>>> even_table((one, (1, 3))), work_by_table((one, two, two), (one, less)), work_by_table((one, two, two), (one, one, one))
((((2, 1), (1, 3)), ((1, 3), (2, 1))), (0, 1), (9, 1))
>>> [gives_within(lag, k) for k in (0, 1, 2, 3)], gives_within(spring, 9), first_gift(lag, 5), first_gift(lag, 1), first_gift(spring, 9)
([False, False, True, True], False, 2, None, None)
>>> is_giving_row(lag, giving_row(lag, 2)), [is_giving_row(lag, own) for own in ((one, less), (one, one), (), (one, [-1, 1]))]
(True, [True, False, False, False])
>>> giving_row(spring, 4)
raises NoPaper()
>>> turned_row(spring, (one, none, none)), work_of_sum(spring, lag, (one, less))
(((1, 1), (2, 1), (2, 1)), ((0, 1), (-1, 1)))
>>> turned_row(lag, (one,))
raises CanNot()
"""

CURVES = """
>>> o, one, two, less, half = (0, 1), (1, 1), (2, 1), (-1, 1), (1, 2)
>>> rub, push, ramp, slow = ((two,), (one,)), ((less,), (one,)), ((one, o), (one, less)), ((o, one), (one, o))
>>> soft, mean = ((one, half), (one, (1, 3))), ((half, half), (one, o))
>>> kiss, spring = (((3, 1), (-4, 1), two), (one, o, o)), ((one, one), (one, less))
>>> slants(soft), curve(soft), curve_at(soft, less), slants(slow), curve(slow)
(((7, 3), (5, 6)), ((7, 3), (5, 3)), (2, 3), ((0, 1), (1, 1)), ((0, 1), (2, 1)))
>>> slants(kiss), curve(kiss), curve_at(kiss, (1, 4)), curve(rub), slants(spring), curve(spring)
(((6, 1), (-4, 1), (2, 1)), ((2, 1), (-8, 1), (8, 1)), (1, 2), ((4, 1),), ((0, 1), (0, 1)), ())
>>> [curve_below(own) for own in (rub, soft, kiss, spring)], curve_at(slow, curve_below(slow))[0] < 0
([None, None, None, None], True)
>>> parts_of_curve(kiss), parts_of_curve(mean)
(((0, 0), ((-1, 2), (1, 1)), ((8, 1),)), ((0, 1), ((1, 1),), ((1, 1),)))
>>> parts_of_curve(ramp), len(touches(kiss, (1, 8))), touches(ramp, one)
(((1, 0), ((1, 1),), ((2, 1),)), 1, ())
>>> [is_loss_free(own) for own in (spring, rub, rim_pair(half))], rim_pair(half)
([True, False, True], (((1, 1), (0, 1), (-1, 1)), ((1, 1), (-1, 1), (1, 1))))
>>> curve_of_sum(spring, soft), curve_of_sum(mean, slow), curve_of_sum(rub, (((-2, 1),), (one,)))
(((14, 3), (-4, 3), (-10, 3)), ((1, 1), (3, 1)), ())
>>> parts_of_curve(slow)
raises CanNot()
>>> touches(spring, one)
raises CanNot()
"""

STORES = """
>>> o, one, two, less, half = (0, 1), (1, 1), (2, 1), (-1, 1), (1, 2)
>>> fade, ring = ((one, o), (one, (-1, 2))), ((one, o, less), (one, (-6, 5), one))
>>> [is_store(fade, ((own,),)) for own in (one, (1, 10), two, (1, 7))], is_store(fade, store_by(fade, square_gap(fade)))
([True, False, False, True], True)
>>> gap_of(fade, ((one,),)), store_by(fade, (((3, 2), (-1, 2)), ((-1, 2), half)))
((((1, 1), (-1, 2)), ((-1, 2), (1, 1))), (((1, 2),),))
>>> leaf = ((one, (one, (-1, 2))), ((3, 4), (one, o)))
>>> are_squares((two, (-1, 2)), leaf), are_squares((two, half), leaf), are_squares((two, (-1, 2)), squares_for((two, (-1, 2))))
(True, False, True)
>>> worth(((two, one), (one, two)), (one, two)), cell_bounds(((two, one), (one, one)), (3, 1))
((7, 1), ((6, 1), (12, 1)))
>>> loss_free_store(ring), stores_mixed(((one,),), (((1, 7),),), half)
((((2, 1), (-6, 5)), ((-6, 5), (2, 1))), (((4, 7),),))
>>> store_of_turned(((two, o), (one, (-1, 2))), ((two,),)), store(((two,), (one,)))
((((1, 2),),), ())
>>> store(((less,), (one,)))
raises NoPaper()
>>> squares_for((two, (-1, 1)))
raises CanNot()
"""

KEEPERS = """
>>> soft, torn = (((1, 1), (0, 1)), ((1, 1), (1, 2))), (((1, 1), (3, 1)), ((1, 1), (0, 1)))
>>> far, coil = (((0, 1), (2, 1)), ((1, 1), (2, 1))), (((1, 1), (1, 1)), ((1, 1), (-1, 1)))
>>> [is_keeper(own) for own in (soft, torn, far, coil)], keepers_of((torn, soft, far, coil))
([True, False, False, True], (1, 3))
>>> [is_paper(soft, ("store", ((own,),))) for own in ((1, 1), (2, 1))], [is_paper(own, ("damper",)) for own in (soft, torn, far)]
([True, False], [False, True, True])
>>> [is_paper(torn, ("curve", own)) for own in ((-1, 2), (-1, 3), (-2, 1))], why_not(far)
([True, False, False], ('damper',))
>>> [keeps_by_rows(torn, own) for own in (0, 1, 2)], [is_border(own) for own in (soft, coil, torn)], echo_bound(soft)
([True, True, False], [False, True, False], (2, 1))
>>> keeps_turned(soft), nearest_keeper(soft, (1, 1)) == soft, nearest_keeper(torn, (1, 2))[0][1], is_keeper(nearest_keeper(torn, (1, 2)))
(True, True, (3, 1), True)
>>> why_not(coil)
raises NoPaper()
>>> nearest_keeper(far, (1, 1))
raises NoPaper()
"""

PARTS = """
>>> [part_box(own) for own in (("spring", (1, 2)), ("mass", (3, 1)))], part_store(("mass", (3, 1))), part_store(("damper", (3, 1)))
([(((1, 2), (1, 2)), ((1, 1), (-1, 1))), (((3, 1), (-3, 1)), ((1, 1), (1, 1)))], (((6, 1),),), ())
>>> [part_work((own, (1, 2)), ((2, 1), (1, 1))) for own in ("spring", "mass", "damper")]
[(9, 2), (1, 2), (5, 2)]
>>> spring_and_mass((1, 1), (2, 1))
(((3, 1), (-2, 1), (3, 1)), ((1, 1), (0, 1), (-1, 1)))
>>> parts_box((("spring", (1, 1)), ("damper", (1, 1))))
(((2, 1), (0, 1)), ((1, 1), (-1, 1)))
>>> tone(soft, (2, 1), (0, 1)), tone(coil, (1, 1), (0, 1)), edge_of((0, 1), (2, 1))
(((4, 5), (0, 1)), None, ((3, 5), (-4, 5)))
>>> [in_sector((0, 1), (2, 1), *own) for own in (((1, 1), (1, 1)), ((1, 1), (3, 2)), ((3, 1), (4, 1)))]
[True, False, True]
>>> slow = (((0, 1), (1, 1)), ((1, 1), (0, 1)))
>>> pair_at(slow, (-1, 1), (1, 1)), pair_at(soft, (2, 1), (0, 1)), pair_at(slow, (0, 1), (1, 1))
(((15, 4), (1, 4)), None, None)
>>> pair_at(torn, (-2, 1), (0, 1)) in (((6, 1), (0, 1)), ((0, 1), (2, 3)))
True
"""

LOOPS = """
>>> damp, minus, held, still = (((2, 1),), ((1, 1),)), (((-1, 2),), ((1, 1),)), ((1, 1),), ((0, 1),)
>>> loop(slow, damp), loop(soft, coil), loop(minus, damp), [is_stuck(minus, own) for own in (damp, coil)]
(((2, 1), (1, 1)), ((-1, 2), (1, 2), (2, 1)), (), [True, False])
>>> [runs_away(own, damp) for own in (slow, soft, minus)], outside_of(slow, damp), outside_of(soft, coil)
([True, False, False], 1, 0)
>>> joined_beat(slow, held, damp, ())
((-2, 1), (1, 1), ((-2, 1),), ())
>>> joined_run(slow, held, damp, (), 3)
((((-2, 1), (1, 1)), ((4, 1), (-2, 1)), ((-8, 1), (4, 1))), ((-8, 1),), ())
>>> pushed_run(soft, still, coil, still, ((1, 1), (0, 1)))
((((1, 2), (1, 2)), ((-3, 8), (-5, 8))), ((-5, 8),), ((-1, 8),))
>>> joined_gift(soft, coil, ((1, 1), (0, 1))), joined_worth((((1, 1),),), held, (((2, 1),),), ((2, 1),))
(((31, 64), (1, 64)), (9, 2))
>>> joined_bound((((1, 1),),), held, (((2, 1),),), ((2, 1),))
((9, 1),)
>>> outside_of(minus, damp)
raises Stuck()
"""

ALONE = """
>>> tardy, minus, pull = ((o, one), (one, (-1, 2))), (((-1, 2),), (one,)), ((less, less), (one, less))
>>> [runs_with(tardy, ("spring", own)) for own in (half, (3, 4))], [runs_with(tardy, ("damper", own)) for own in ((3, 2), two)]
([False, True], [False, True])
>>> marks(tardy, "mass", half), spans(tardy, "mass", half), len(marks(tardy, "spring", half)), stuck_amount(tardy) is None
([], [((0, 1), None)], 1, True)
>>> kinds_that_run(tardy), kinds_that_run(minus), kinds_that_run(fade)
(('damper', 'mass', 'spring'), ('mass', 'spring'), ())
>>> stuck_amount(minus), is_quiet(minus, ("damper", one)), is_quiet(minus, ("spring", two)), one_of_kind(minus, "damper") is None
((2, 1), True, False, True)
>>> is_one_part(minus, ("mass", one)), is_one_part(minus, ("damper", one))
(True, False)
>>> part_for_times(two, ("spring", one)), marks(ring, "spring", one)
(('spring', (1, 2)), [])
>>> one_part(fade)
raises NoPaper()
>>> marks(pull, "spring", one)
raises CanNot()
"""

RUNAWAYS = """
>>> twice, four = ((o, o, one), (one, o, o)), ((10, 3), (10, 3), o, two)
>>> is_pair(twice, four), is_pair(twice, four[:3] + ((3, 1),)), is_pair(tardy, ((15, 2), o, (-2, 1), o)), is_pair(fade, four)
(True, False, True, False)
>>> growth(four), pair_loop(twice, four)
((4, 1), ((20, 3), (0, 1), (17, 3), (0, 1), (1, 1)))
>>> rows = ((((-5, 1), o), (one, o)), ((o, (-5, 1)), (o, one)), (((20, 1), o), ((-4, 1), o)))
>>> is_pair_run(twice, four, rows), is_pair_run(twice, four, rows[1:]), is_pair_run(twice, four, rows[:1] + rows[2:])
(True, True, False)
>>> passes(rows, (10, 1)), passes(rows, (20, 1)) is None, len(pair_run(tardy, ((15, 2), o, (-2, 1), o), 3))
(2, True, 4)
>>> is_giving_row(twice, row_of_pair(twice, four, (5, 1))), is_pair(twice, pair_near(twice, o, two, 3)), is_pair(minus, pair(minus))
(True, True, True)
>>> pair_for_times(two, four)
((5, 3), (5, 3), (0, 1), (2, 1))
>>> pair(fade)
raises NoPaper()
"""

WHOEVER = """
>>> spring, deep = (((1, 1), (1, 1)), ((1, 1), (-1, 1))), (((2, 1),),)
>>> third, like = (2, ("damper", (1, 3))), (1, ("spring", (1, 1)))
>>> script_run(spring, ((1, 1),), (third, like))
((((-1, 2), (3, 2)), ((-1, 4), (3, 4)), ((-1, 4), (1, 4))), ((0, 1),))
>>> script_worths(spring, deep, ((1, 1),), (third, like)), stays(spring, deep, ((1, 1),), (third, like)), is_script((third, like)), is_script(((0, third[1]),))
(((1, 1), (1, 4), (1, 16), (0, 1)), True, True, False)
>>> dampers_run(spring, ((1, 1),), ((0, 1), (1, 1))), put_in(spring, ((0, 1),), ((1, 1), (0, 1), (-1, 1))), put_in(spring, ((1, 1),), ())
(((((0, 1), (2, 1)), ((-1, 1), (1, 1))), ((0, 1),)), (1, 1), (0, 1))
>>> bound_for(deep, ((1, 1),), (1, 1)), is_within(spring, deep, ((1, 1),), ((2, 1), (-5, 1)), (8, 1)), is_within(spring, deep, ((1, 1),), ((2, 1),), (7, 1))
(((2, 1),), True, False)
>>> worst_exchange(spring, deep, ((1, 1),), ((third,), (like,), ())), held_still(spring, ((1, 1),), 2), bound_for((), (), (3, 1))
(2, ((-2, 1), (2, 1)), ())
>>> script_run((((-1, 1),), ((1, 1),)), (), ((1, ("damper", (1, 1))),))
raises Stuck()
"""

DRAWN = """
>>> damped, ring = ((two, none), (one, less)), ((one, none, less), (one, none, one))
>>> most_drawn(spring, ((3, 1),), 1), rises(damped, (one,), 3), drawn_table(damped, 2)
((9, 1), ((1, 2), (2, 3), (3, 4)), (((4, 3),),))
>>> drawing_row(damped, (one,), 2), [is_drawing_row(damped, (one,), 1, own) for own in (((-1, 2),), (less,), [(-1, 2)])]
(((-1, 3), (-1, 3)), [True, False, False])
>>> [need(damped, (one,), k) for k in (0, 1, 2, 3)], needing_row(damped, (one,), 2)
([None, (2, 1), (3, 2), (4, 3)], ((1, 2), (1, 2)))
>>> need(ring, (none, one), 1), come_to(ring, (none, one), 1), need(ring, (none, one), 2), come_to(ring, (none, one), 2)
(None, None, (1, 1), ((1, 1), (0, 1)))
>>> between(damped, ((two,),), (one,), 2), never_more(damped, ((two,),), 8), never_more(damped, ((one,),), 2)
(((2, 3), (1, 1), (3, 2)), True, False)
>>> drawn_all(ring, (one, two)), work_of(ring, (one, two), drawn_all(ring, (one, two)))
(((2, 1), (1, 1)), (-5, 1))
>>> drawn_all(damped, (one,))
raises CanNot()
>>> most_drawn(lag, (one,), 1)
raises CanNot()
"""

SHARES = """
>>> with_damper(slow, one), with_damper(rub, less), least_damper(spring, half)
((((1, 1), (1, 1)), ((1, 1), (0, 1))), (((1, 1),), ((1, 1),)), ((0, 1), (0, 1)))
>>> grow = ((one, o), (one, (-2, 1)))
>>> share(grow, half), least_damper(grow, half), share_of_sum(rub, grow, half), safe_from(slow, half), safe_from(ramp, half)
(None, None, None, None, ((0, 1), (0, 1)))
>>> inner_share(slow, half), inner_share(grow, one), inner_share(push, two)
((((0, 1), (1, 1)), ((1, 1), (1, 2))), (((1, 2), (0, 1)), ((1, 1), (-1, 1))), (((1, 1),), ((1, 1),)))
>>> [keeps_with_share(push, own) for own in (o, half, one, two)], [keeps_with_share(grow, own) for own in (half, one)]
([False, False, False, True], [False, True])
>>> [is_share(rub, own, (3, 1), ((), (two, o, (-3, 1), o))) for own in (one, two)], is_share(soft, half, one, share_papers(soft, half, one))
([True, True], True)
>>> [is_pair_of_share(push, half, own) for own in ((one, o, (-3, 1), o), (two, o, (-3, 1), o), pair_of_share(push, half))]
[True, False, True]
>>> inner_share(push, one)
raises Stuck()
>>> share_papers(rub, one, two)
raises CanNot()
"""

MIXTURES = """
>>> back, lag3 = ((o, less), (one, o)), ((o, (3, 1)), (one, o))
>>> mixed(rub, slow, two), mixed(rub, slow, o) == rub, mixed(rub, push, one), crowd((rub, slow, slow))
((((2, 1), (2, 1)), ((1, 1), (0, 1))), True, (((1, 1),), ((1, 1),)), (((2, 1), (2, 1)), ((1, 1), (0, 1))))
>>> keep_span(rub, spring, half), [is_keep_span(rub, slow, own, (3, 1)) for own in (less, o, two, (5, 2))], is_keep_span(rub, slow, one, two)
(None, [False, True, True, False], False)
>>> is_keep_span(spring, slow, o, (1, 1000)), is_keep_span(rub, push, two, (3, 1))
(True, True)
>>> lots_that_keep((rub, slow, slow)), least_lots((rub, slow, slow)), pairs_that_keep((rub, slow, slow))
([(0,), (0, 1), (0, 1, 2), (0, 2)], [(0,)], [(0, 1), (0, 2)])
>>> lots_that_keep((slow, back, rub)), least_lots((slow, back, rub)), spoilers((rub, lag3, push)), spoilers((rub, slow))
([(0, 1), (0, 1, 2), (0, 2), (1, 2), (2,)], [(0, 1), (2,)], (1,), ())
>>> damper_for_all((rub, soft), half), damper_for_all((rub, grow), half), failing_lot((rub, push), o), failing_lot((slow, slow), (3, 2))
(((0, 1), (0, 1)), None, (1,), (0, 1))
>>> failing_lot((slow, slow), two)
raises NoPaper()
>>> keep_span(slow, rub, one)
raises CanNot()
>>> crowd((slow, back))
raises CanNot()
"""

TAKINGS = """
>>> both, mass, half = ((two, none, two), (one, none, less)), ((one, less), (one, one)), (1, 2)
>>> most_spring(both), most_mass(both), most_spring(damped), most_mass(damped), most_ring(ring, none), most_ring(ring, half)
((1, 1), (1, 1), (1, 1), (0, 1), (1, 1), (0, 1))
>>> taken(both, ("spring", one)) == mass, taken(both, ("mass", half)), after_all(damped)
(True, (((3, 2), (1, 1), (3, 2)), ((1, 1), (0, 1), (-1, 1))), (((1, 1),), ((1, 1),)))
>>> [is_most(damped, own) for own in (("damper", one), ("spring", one), ("spring", half), ("mass", one), ["damper", one])]
[True, True, False, False, False]
>>> [late_spring((3, 2), k) for k in (0, 1, 2)], [late_mass(half, k) for k in (0, 1, 2, 3)]
([(0, 1), (3, 1), (6, 1)], [(0, 1), None, (2, 1), None])
>>> is_giving_row(late(spring, 1), late_row(spring, 1)), lags_borne(spring, two), lags_borne(mass, (4, 1)), lag_damper(mass, 1, half)
(True, (0, 1), (0, 2), None)
>>> wall(one, one, 0), wall(one, none, 1)
((((2, 1), (0, 1)), ((1, 1), (-1, 1))), (((0, 1), (1, 1), (1, 1)), ((1, 1), (-1, 1), (0, 1))))
>>> low, high = wall_damper(one, none, 1, (1, 8))
>>> low[0] < 2 * low[1], high[0] >= 2 * high[1]
(True, True)
>>> after_all(both)
raises CanNot()
"""

TOLD = """
>>> one, two, half, none = (1, 1), (2, 1), (1, 2), (0, 1)
>>> [can_be(own) for own in ((one, one), (one, two), (one, (3, 1)), (none, one))], [first_off(own) for own in ((one, one, (3, 1)), (none, one), (one, one))]
([True, True, False, False], [3, 1, None])
>>> [is_row_for_all((one, (3, 1)), own) for own in ((one, (-1, 1)), (one, one), (one,), [one, (-1, 1)])], is_row_for_all((none, one), row_for_all((none, one)))
([True, False, False, False], True)
>>> next_stretch((one,)), next_stretch((one, one)), next_stretch((one, two)), led_on((one, one), 2)
(((-2, 1), (2, 1)), ((-1, 1), (2, 1)), ((2, 1), (2, 1)), ((1, 1), (1, 1), (1, 2), (1, 4)))
>>> end_box((one, one), 0), end_box((one, one), 1), only_one((one, two)), only_one((one, one)), echoes(some_box((one, one)), 2)
((((1, 1), (0, 1), (-1, 1)), ((1, 1), (-1, 1), (1, 1))), (((1, 1), (1, 1), (1, 1)), ((1, 1), (0, 1), (-1, 1))), (((1, 1), (1, 1)), ((1, 1), (-1, 1))), None, ((1, 1), (1, 1)))
>>> steps_of((one, one, none)), steps_of((one, two, two, two)), from_steps(one, (half, (-1, 3)))
(((1, 2), (-1, 3)), ((1, 1), (0, 1), (0, 1)), ((1, 1), (1, 1), (0, 1)))
>>> next_stretch((one, (3, 1)))
raises CanNot()
>>> row_for_all((one, one))
raises NoPaper()
>>> can_be((none, none))
raises Unfit()
"""

HOLES = """
>>> damper, more, spring = ((one,), (one,)), ((two,), (one,)), ((one, one), (one, (-1, 1)))
>>> outer_of(damper, spring), inner_echoes(damper, (half, (-1, 2), none)), outer_echoes(damper, (one, two, two))
((((1, 2), (-1, 2)), ((1, 1), (0, 1))), ((1, 1), (2, 1), (2, 1)), ((1, 2), (-1, 2), (0, 1)))
>>> [could_show(damper, own) for own in ((half, (1, 4)), (one, none), (two,), (half, (3, 1)))], [first_strange(damper, own) for own in ((half, (3, 1)), (one, none, one), (half, half))]
([True, True, False, False], [2, 3, None])
>>> next_outer(damper, (half, (1, 4))), outer_end(damper, (half, (1, 4)), 0), next_outer(damper, (one,)), outer_end(damper, (one,), 0)
(((-3, 8), (3, 8)), (((1, 1), (-1, 1), (1, 1)), ((1, 1), (0, 1), (-1, 1))), ((0, 1), (0, 1)), None)
>>> [is_first(damper, own) for own in (one, half, two, none)], [same_inside(damper, (half,), more, (own,)) for own in ((2, 3), half)]
([True, True, False, False], [True, False])
>>> outer_of((((-1, 1),), (one,)), damper)
raises Stuck()
>>> inner_echoes(((none, one), (one, none)), (one,))
raises CanNot()
>>> why_none(damper, (half,))
raises NoPaper()
"""

LOGS = """
>>> o, i, less = (0, 1), (1, 1), (-1, 1)
>>> seen, odd, coil = ((i, i), (i, (3, 2))), ((i, i), (i, (4, 1))), ((i, i), (i, less))
>>> echoes_of(seen), [could_be(own) for own in (seen, odd)], next_answer(seen, o), next_answer(seen, i)
(((1, 1), (1, 2)), [True, False], ((-5, 4), (5, 2)), ((-1, 4), (7, 2)))
>>> log_of(coil, (i, i)), next_answer(log_of(coil, (i, i)), o)
((((1, 1), (1, 1)), ((1, 1), (3, 1))), ((4, 1), (4, 1)))
>>> log_end(seen, o, 1), next_answer(log_end(seen, o, 1), o)
((((1, 1), (1, 1)), ((1, 1), (3, 2)), ((0, 1), (5, 2))), ((5, 2), (5, 2)))
>>> is_row_for_all(echoes_of(odd), surely_gives(odd)), put_in_of(odd), whoever_could(odd), whoever_could(((i, i), (less, (2, 1))))
(True, (5, 1), True, False)
>>> logs_agree(log_of(coil, (i, i)), ((i, i), (o, (2, 1)), (o, o))), logs_agree(seen, odd), [is_log(own) for own in (seen, ((o, i),), (), [(i, i)])]
(True, False, [True, False, False, False])
>>> next_answer(odd, o)
raises CanNot()
>>> surely_gives(seen)
raises NoPaper()
"""

JUDGE = """
>>> o, one, two, less, half = (0, 1), (1, 1), (2, 1), (-1, 1), (1, 2)
>>> rub, push, ramp = ((two,), (one,)), ((less,), (one,)), ((one, o), (one, less))
>>> shows(("keeper", rub), ()), shows(("keeper", push), ("curve", o)), shows(("keeper", rub), ("curve", o))
(True, False, None)
>>> shows(("alone", push), ("spring", two)), shows(("alone", push), ("spring", one)), shows(("alone", rub), ())
(True, None, False)
>>> shows(("pair", push), (two, o, (-3, 1), o)), shows(("pair", push), (two, o, (-2, 1), o)), shows(("pair", rub), ())
(True, None, False)
>>> shows(("share", rub, one), ()), shows(("share", rub, two), ()), shows(("share", rub, (3, 1)), (two, o, (-3, 1), o))
(True, True, False)
>>> is_so(("company", push, half)), is_so(("company", push, two)), shows(("company", push, two), ())
(False, True, True)
>>> shows(("told", (one, one)), ramp), shows(("told", (one, (3, 1))), (one, less)), shows(("told", (one, one)), rub)
(True, False, None)
>>> shows(("hole", ((one,), (one,)), (half,)), ((one,), (one,))), shows(("hole", ((one,), (one,)), (two,)), (one,))
(True, False)
>>> shows(("log", ((one, one), (o, one))), ramp), shows(("log", ((one, less),)), (one,))
(True, False)
>>> not_so((("keeper", rub), ("keeper", push))), words_so((("keeper", rub), ("keeper", push), ("alone", push)))
((1,), ('alone',))
>>> turned_by((("keeper", rub), ("alone", rub), ("told", (one,))), push), is_claim(("keeper", ((one, one), (one, one))))
((0, 1), False)
>>> is_so(("company", push, one))
raises Stuck()
"""

TEXTS = r"""
>>> fraction_text((-3, 2)), fraction_text((4, 1)), fraction_in("-3/2"), fraction_in("0")
('-3/2', '4', (-3, 2), (0, 1))
>>> box_text((((1, 1), (1, 2)), ((1, 1), (-1, 1)))), box_in("tops 2/3\nbottoms 1")
('tops 1 1/2\nbottoms 1 -1', (((2, 3),), ((1, 1),)))
>>> script_text(((3, ("spring", (1, 2))), (1, ("mass", (5, 1))))), script_text(()), script_in("2 damper 1/3")
('3 spring 1/2\n1 mass 5', '', ((2, ('damper', (1, 3))),))
>>> log_text((((1, 1), (1, 1)), ((0, 1), (-3, 2)))), log_in("1 0\n-1/2 7")
('1 1\n0 -3/2', (((1, 1), (0, 1)), ((-1, 2), (7, 1))))
>>> fraction_in("2/4")
raises BadText(line=0)
>>> box_in("tops 1 0\nbottoms 1")
raises BadText(line=1)
>>> box_in("tops 1 0")
raises BadText(line=1)
>>> script_in("3 spring 1/2\n0 mass 1")
raises BadText(line=1)
>>> log_in("0 1\n1 1")
raises BadText(line=0)
>>> log_in("")
raises BadText(line=0)
"""

OFFICE = r"""
>>> office = Office(coil)
>>> office.do(("add", ("damper", (1, 2)))), office.box_now(), office.heard((i, o)), office.keeps()
(None, (((3, 2), (1, 2)), ((1, 1), (-1, 1))), (((1, 1), (3, 2)), ((0, 1), (2, 1))), True)
>>> office.do(("late", 1)), office.keeps(), is_one_part(office.box_now(), office.alone()), office.undo(), office.keeps()
(None, False, True, ('late', 1), True)
>>> office.do(("off", ("spring", i))), office.do(("turn",)), office.box_now(), len(office)
(None, None, (((2, 1),), ((1, 1),)), 3)
>>> replies(coil, "keeps\nadd damper 1/2\nbox\npush 1 0\nlate 1\nkeeps\nruns damper 4\nruns damper 1\nundo\noff spring 1\noff damper 1/2\nbox\nredo")
['yes', 'done', 'tops 3/2 1/2 | bottoms 1 -1', '3/2 2', 'done', 'no', 'yes', 'no', 'done', 'done', 'refused CanNot', 'tops 1/2 | bottoms 1', 'refused CanNot']
>>> office.alone()
raises NoPaper()
>>> replies(coil, "box\nlate 0")
raises BadText(line=1)
"""

# In the order of the document: a name is that of the nearest example ahead.
SECTIONS = [("boxes", BOXES), ("numbers", NUMBERS), ("works", WORKS), ("curves", CURVES),
            ("stores", STORES), ("keepers", KEEPERS), ("parts", PARTS), ("loops", LOOPS),
            ("alone", ALONE), ("runaways", RUNAWAYS), ("whoever", WHOEVER), ("drawn", DRAWN),
            ("shares", SHARES), ("mixtures", MIXTURES), ("takings", TAKINGS), ("told", TOLD),
            ("holes", HOLES), ("logs", LOGS), ("judge", JUDGE), ("texts", TEXTS), ("office", OFFICE)]
MODULES = [alone, boxes, curves, desk, drawn, holes, judge, keepers, logs, loops, mixtures, numbers, office, parts,
           runaways, shares, stores, takings, texts, told, whoever, works]


class ExampleTests(unittest.TestCase):

    def test_every_example(self):
        names = names_of(MODULES)
        for section, text in SECTIONS:
            with self.subTest(section=section):
                check_examples(self, text, names)

    def test_the_examples_of_the_readme(self):
        readme = pathlib.Path(__file__).resolve().parent.parent / "README.md"
        rows = readme.read_text().partition("## How to use it")[2].partition("## How to run")[0].split("\n")
        shown = [own for own in rows if own.startswith("    ")]
        self.assertTrue(len(shown) > 8)
        check_examples(self, "\n".join(shown), {})

    def test_the_runner_sees_what_differs(self):
        self.assertEqual(pairs_of(">>> a = 1\n>>> a\n1"), [["a = 1", None], ["a", "1"]])
        for text in (">>> 1 + 1\n3", ">>> (1, 2)\n[1, 2]", ">>> 1\nraises CanNot()"):
            result = unittest.TestResult()

            class Wrong(unittest.TestCase):
                def runTest(self):
                    check_examples(self, text, {})

            Wrong().run(result)
            self.assertFalse(result.wasSuccessful())


if __name__ == "__main__":
    unittest.main()
