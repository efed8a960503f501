"""What holds for every call: names, lists for tuples, Unfit, the same answer twice."""

import copy
import inspect
import unittest

import keepcompany.errors as errors
from keepcompany import (alone, boxes, curves, desk, drawn, holes, judge, keepers, logs, loops, mixtures, numbers,
                         parts, runaways, shares, stores, takings, texts, told, whoever, works)
from keepcompany.errors import Unfit
from keepcompany.office import Office

from call_table import (ANY_SIZE, CALLS, CLAIM, CLAIMS, DAMPED, FADE, FLAT, FOUR, GIVES_LISTS, GREAT, HEARD, INTERFACE,
                        LAG, METHODS, NO_CLAIM, NO_LOG, NO_SCRIPT, ODD, ODDLY, OFF, P, PART, PULL, PUSH, RUB, RUN,
                        SCRIPT, SEEN, SOFT, SPRING, STUCK, TWICE, WIDE, WRONG)
from helpers import HALF, LESS, O, ONE, TWO, box, lists, row

LATE = box([0, 0, 0, 1], [1, 0, 0, 0])
LONG = ((ONE, ONE),) * 13


def each_call():
    for module, listed in CALLS.items():
        for name, told in listed.items():
            yield getattr(module, name), name, told


def shown_of(found):
    """What found looks like, an Office too."""
    return repr((found.box_now(), found.edits()) if isinstance(found, Office) else found)


class CallTests(unittest.TestCase):

    def test_names_files_and_arguments(self):
        for function, name, told in each_call():
            with self.subTest(name=name):
                self.assertTrue(inspect.isfunction(function))
                self.assertIn("/" + function.__module__.split(".")[1] + ".py",
                              function.__code__.co_filename)
                self.assertEqual(list(inspect.signature(function).parameters), [own[0] for own in told])

    def test_the_whole_interface(self):
        listed, last = {}, None
        for line in INTERFACE.strip("\n").split("\n"):
            name, _, names = line.partition(":") if not line.startswith(" ") else (last, "", line)
            listed.setdefault(name, []).extend(names.split())
            last = name
        self.assertEqual(listed.pop("office"), ["Office"])
        called = {module.__name__.partition(".")[2]: list(told) for module, told in CALLS.items()}
        self.assertEqual({name: sorted(own) for name, own in called.items()},
                         {name: sorted(own) for name, own in listed.items()})
        self.assertEqual(sum(len(own) for own in listed.values()), 212)

    def test_the_methods_of_an_office(self):
        self.assertEqual(Office.__module__, "keepcompany.office")
        self.assertEqual(Office.__bases__, (object,))
        for name, parameters in METHODS.items():
            self.assertIn(name, vars(Office))
            self.assertEqual(list(inspect.signature(vars(Office)[name]).parameters)[1:], parameters)

    def test_errors(self):
        for name in ("Unfit", "Stuck", "CanNot", "NoPaper", "TooMany", "BadText"):
            own = getattr(errors, name)
            self.assertEqual(own.__bases__, (ValueError,))
            self.assertEqual(own.__module__, "keepcompany.errors")
        for own in (errors.Unfit, errors.Stuck, errors.CanNot, errors.NoPaper, errors.TooMany):
            self.assertIsInstance(own(), ValueError)
            self.assertEqual(copy.copy(own()).args, ())
        self.assertEqual(copy.copy(errors.BadText(3)).line, 3)
        self.assertEqual(errors.BadText(3).line, 3)
        self.assertEqual(errors.BadText(line=4).line, 4)

    def test_by_names_with_lists_and_twice(self):
        for function, name, told in each_call():
            with self.subTest(name=name):
                plain = [own[2] for own in told]
                shown = shown_of(function(*plain))
                self.assertEqual(shown_of(function(**{own[0]: own[2] for own in reversed(told)})), shown)
                wide = [own[2] if own[1] == "thing" else lists(own[2]) for own in told]
                kept = copy.deepcopy(wide)
                self.assertEqual(shown_of(function(*wide)), shown)
                self.assertEqual(wide, kept)
                for at in range(len(told)):
                    if told[at][1] != "thing" and isinstance(plain[at], tuple):
                        half = list(plain)
                        half[at] = tuple(lists(own) for own in plain[at])
                        self.assertEqual(shown_of(function(*half)), shown)
                self.assertEqual(shown_of(function(*plain)), shown)

    def test_lists_within_what_is_returned_are_none(self):
        def no_lists(x):
            return not isinstance(x, list) and (not isinstance(x, tuple) or all(map(no_lists, x)))

        for function, name, told in each_call():
            with self.subTest(name=name):
                given = [own[2] if own[1] == "thing" else lists(own[2]) for own in told]
                found = function(*given)
                if name in GIVES_LISTS:
                    self.assertIs(type(found), list)
                    self.assertIsNot(function(*given), found)
                    found = tuple(found)
                self.assertTrue(no_lists(found))

    def test_unfit(self):
        for function, name, told in each_call():
            for at, (parameter, kind, _) in enumerate(told):
                for wrong in WRONG.get(kind, ()):
                    if name in ANY_SIZE and kind == "table" and wrong == WRONG["table"][-1]:
                        continue
                    if wrong == [[[[]]]] and kind == "table":
                        continue
                    with self.subTest(name=name, parameter=parameter, wrong=wrong):
                        given = [own[2] for own in told]
                        given[at] = wrong
                        with self.assertRaises(Unfit):
                            function(*given)

    def test_deep_lists_are_unfit(self):
        deep = []
        for _ in range(50000):
            deep = [deep]
        for function, name, told in each_call():
            for at, (_, kind, _) in enumerate(told):
                given = [own[2] for own in told]
                given[at] = deep
                if kind == "thing":
                    self.assertIs(function(*given), None if name == "shows" else False)
                else:
                    with self.assertRaises(Unfit):
                        function(*given)

    def test_unfit_ahead_of_all_else(self):
        damp = box([-1], [1])
        for call in (lambda: boxes.times(SPRING, (0, 2)), lambda: boxes.summed(LAG, (5,)),
                     lambda: numbers.poly_parted(P, (O,)), lambda: numbers.roots_between((), ONE, O),
                     lambda: numbers.roots_between((), ONE, ONE),
                     lambda: numbers.root_spans((), O, ONE, O), lambda: works.turned_row(LAG, (5,)),
                     lambda: works.giving_row(SPRING, 13), lambda: curves.touches(SPRING, TWO),
                     lambda: stores.store_of_turned(LAG, ()), lambda: stores.store_by(FADE, ((ONE,),)),
                     lambda: stores.cell_bounds(ODD, LESS), lambda: keepers.nearest_keeper(damp, O),
                     lambda: keepers.keepers_of((damp, WIDE)), lambda: parts.spring_and_mass(O, LESS),
                     lambda: parts.in_sector(O, LESS, ONE, 5), lambda: parts.edge_of(ONE, 0),
                     lambda: loops.joined_run(damp, (), STUCK, (), 41), lambda: loops.outside_of(damp, WIDE),
                     lambda: loops.pushed_run(damp, (), STUCK, (), (5,)), lambda: loops.joined_gift(damp, STUCK, 5),
                     lambda: loops.joined_beat(damp, (), STUCK, (ONE,)),
                     lambda: loops.joined_bound(ODD, row(0, 0), FLAT, (ONE,)),
                     lambda: alone.marks(PULL, "spring", O), lambda: alone.spans(PULL, "spring", O),
                     lambda: alone.one_of_kind(PULL, "rod"), lambda: alone.least_amount(FADE, "spring", TWO),
                     lambda: runaways.near_zero(FADE, PART, TWO), lambda: runaways.pair_run(FADE, FOUR, 3),
                     lambda: runaways.row_of_pair(TWICE, FOUR, LESS), lambda: whoever.script_run(damp, (), ((1, 1),)),
                     lambda: whoever.stays(damp, ((ONE,),), (), ((1, ("damper", ONE)),)),
                     lambda: whoever.dampers_run(damp, (), row(1, -1)), lambda: whoever.bound_for(ODD, row(0, 0), LESS),
                     lambda: whoever.is_within(FADE, ((O,),), (ONE,), 5, O),
                     lambda: whoever.worst_exchange(damp, (), (), (((1, ("damper", ONE)),), 5)),
                     lambda: whoever.held_still(LAG, (ONE,), 41), lambda: drawn.most_drawn(LAG, (ONE,), 9),
                     lambda: drawn.drawing_row(LAG, (), 1), lambda: drawn.is_drawing_row(LAG, (ONE,), -1, ()),
                     lambda: drawn.rises(LAG, (ONE,), None), lambda: drawn.drawn_table(LAG, 9),
                     lambda: drawn.need(LAG, (ONE, ONE), 1), lambda: drawn.needing_row(LAG, (ONE,), 9),
                     lambda: drawn.come_to(LAG, (ONE,), 9), lambda: drawn.between(LAG, (), (ONE,), 1),
                     lambda: drawn.never_more(LAG, FLAT, 1), lambda: drawn.drawn_all(LAG, ()),
                     lambda: shares.with_damper(RUB, (-4, 2)), lambda: shares.inner_share(PUSH, LESS),
                     lambda: shares.share_papers(RUB, ONE, 2), lambda: shares.pair_of_share(PUSH, LESS),
                     lambda: shares.share_of_sum(RUB, box([-2], [1]), TWO), lambda: mixtures.mixed(RUB, PUSH, 2),
                     lambda: mixtures.keep_span(LAG, RUB, TWO), lambda: mixtures.crowd((PUSH, box([1], [1]), WIDE)),
                     lambda: mixtures.is_keep_span(GREAT, GREAT, O, 1), lambda: mixtures.failing_lot((RUB,), 1),
                     lambda: mixtures.damper_for_all((GREAT, box([0, 0, 0, 1], [1, 0, 0, 2])), O),
                     lambda: takings.most_ring(LAG, ONE), lambda: takings.taken(RUB, ("damper", (4, 2))),
                     lambda: takings.late_row(LATE, 0), lambda: takings.lag_damper(LATE, 3, O),
                     lambda: takings.lags_borne(GREAT, 1), lambda: takings.wall_damper(ONE, LESS, 1, ONE),
                     lambda: told.led_on(OFF, 41), lambda: told.end_box(OFF, True), lambda: told.row_for_all((O,)),
                     lambda: holes.inner_echoes(LAG, (ONE, 1)), lambda: holes.outer_end(LAG, (O,), 2),
                     lambda: holes.outer_echoes(PUSH, (ONE, None)), lambda: holes.is_first(LAG, 0),
                     lambda: holes.outer_of(PUSH, WIDE), lambda: holes.same_inside(LAG, (O,), RUB, ()),
                     lambda: holes.same_inside(LAG, (ONE,), WIDE, (ONE,)), lambda: logs.next_answer(LONG, 1),
                     lambda: logs.log_end(LONG, ONE, 2), lambda: logs.could_be(LONG[:0]),
                     lambda: logs.log_of(LAG, (O, ONE)), lambda: judge.not_so((("hole", LAG, (ONE,)), ("keeper", WIDE))),
                     lambda: judge.words_so((("log", LONG), None)), lambda: judge.turned_by((("hole", LAG, (ONE,)),), WIDE),
                     lambda: judge.shows(("company", PUSH, LESS), ()), lambda: desk.replies(WIDE, "x"),
                     lambda: desk.last_office(RUB, None), lambda: texts.box_text(WIDE)):
            with self.assertRaises(Unfit):
                call()

    def test_the_first_argument_that_is_none_decides_nothing_more(self):
        """All wrong at once: Unfit, whatever thing is."""
        for function, name, listed in each_call():
            kinds = [own[1] for own in listed]
            if all(kind in WRONG and kind != "row" for kind in kinds if kind != "thing") and kinds != ["thing"]:
                with self.subTest(name=name), self.assertRaises(Unfit):
                    function(*[None for _ in listed])

    def test_things_are_taken_as_they_are(self):
        calls = [(boxes.is_box, (), SPRING), (works.is_giving_row, (LAG,), (ONE, LESS)),
                 (stores.are_squares, (row(2),), ((TWO, (ONE,)),)), (stores.is_store, (FADE,), ((ONE,),)),
                 (keepers.is_paper, (FADE,), ("store", ((ONE,),))), (keepers.is_paper, (LAG,), ("curve", LESS)),
                 (parts.is_part, (), ("mass", ONE)), (alone.is_one_part, (PUSH,), ("mass", HALF)),
                 (runaways.is_pair, (TWICE,), FOUR), (runaways.is_pair_run, (TWICE, FOUR), RUN),
                 (drawn.is_drawing_row, (DAMPED, (ONE,), 2), row("-1/3", "-1/3")),
                 (shares.is_share, (RUB, ONE, row(3)[0]), ((), row(2, 0, -3, 0))),
                 (shares.is_share, (SOFT, HALF, ONE), shares.share_papers(SOFT, HALF, ONE)),
                 (shares.is_pair_of_share, (PUSH, HALF), row(1, 0, -3, 0)),
                 (takings.is_most, (RUB,), ("damper", TWO)), (told.is_row_for_all, (OFF,), row(1, 0, 1)),
                 (judge.is_claim, (), ("keeper", RUB)), (judge.is_claim, (), ("share", SOFT, ONE)),
                 (judge.is_claim, (), ("company", LAG, HALF)),
                 (judge.is_claim_paper, (("alone", PUSH),), ("mass", HALF)),
                 (judge.is_claim_paper, (("pair", TWICE),), FOUR), (judge.is_claim_paper, (("keeper", FADE),), ((ONE,),)),
                 (judge.is_claim_paper, (("keeper", LAG),), ("curve", LESS)),
                 (judge.is_claim_paper, (("told", OFF),), row(1, 0, 1)), (judge.is_claim_paper, (("told", (ONE,)),), SOFT),
                 (judge.is_claim_paper, (("hole", RUB, (ONE,)),), box(["1/2"], [1])),
                 (judge.is_claim_paper, (("log", ODDLY),), (ONE, LESS))]
        for function, ahead, thing in calls:
            self.assertIs(function(*ahead, thing), True)
            for wrong in spoiled(thing):
                with self.subTest(name=function.__name__, wrong=wrong):
                    self.assertIs(function(*ahead, wrong), False)
            for wrong in (None, True, False, 0, 1, -3, "", "store", [], (), ((),), [[]], ((((((((1,),),),),),),),)):
                self.assertIs(function(*ahead, wrong), False)

    def test_logs_and_claims_are_taken_as_they_are(self):
        for own in SEEN:
            for wrong in spoiled(own):
                self.assertIs(logs.is_log((SEEN[0], wrong)), False)
                self.assertIs(judge.is_claim(("log", (SEEN[0], wrong))), False)
        for wrong in NO_LOG + (list(SEEN), [], 0, "log"):
            self.assertIs(logs.is_log(wrong), False)
        for own in CLAIMS:
            self.assertIs(judge.is_claim(own), True)
            self.assertIs(judge.is_claim(list(own)), False)
            self.assertIs(judge.is_claim(own[:1] + (lists(own[1]),) + own[2:]), False)
        for wrong in NO_CLAIM:
            self.assertIs(judge.is_claim(wrong), False)
            self.assertIsNone(judge.shows(CLAIM, wrong if wrong != () else None))
        for echo in spoiled(HEARD[1]):
            self.assertIs(judge.is_claim(("told", (ONE, echo))), False)
            self.assertIs(judge.is_claim(("hole", RUB, (ONE, echo))), False)

    def test_scripts_are_taken_as_they_are(self):
        self.assertIs(whoever.is_script(()), True)
        self.assertIs(whoever.is_script(((10 ** 30, PART),) * 50), True)
        for wrong in spoiled((1, ("damper", ONE))):
            self.assertIs(whoever.is_script((SCRIPT[0], wrong)), False)
        for wrong in NO_SCRIPT + (list(SCRIPT), [], None, True, False, 0, "", "spring", [[]], ((),)):
            self.assertIs(whoever.is_script(wrong), False)


def spoiled(thing):
    """thing with one part of it as a list, or with True for 1, and one part too many."""
    if isinstance(thing, tuple):
        yield list(thing)
        yield thing + (thing[-1],) if thing and thing[-1] != ONE else list(thing) + [None]
        for k, own in enumerate(thing):
            for wrong in spoiled(own):
                yield thing[:k] + (wrong,) + thing[k + 1:]
    elif thing == 1 and thing is not True:
        yield True
        yield "1"
        yield 1.5


if __name__ == "__main__":
    unittest.main()
