"""What holds for every call: names, lists for tuples, Unfit, the same answer twice."""

import copy
import inspect
import unittest

import keepcompany.errors as errors
from keepcompany import boxes, curves, keepers, numbers, stores, works
from keepcompany.errors import Unfit

from helpers import HALF, LESS, O, ONE, TWO, box, lists, row, table

SPRING = box([1, 1], [1, -1])
FADE = box([1, 0], [1, "-1/2"])
LAG = box([0, 1], [1, 0])
RING = box([1, 0, -1], [1, "-6/5", 1])
RUB = box([2], [1])
WIDE = box([1, 0, -1], [1, -2, 1])
KISS = box([3, -4, 2], [1, 0, 0])
FLAT = table([[2, 1], [1, 1]])
ODD = table([[1, 2], [2, 1]])
P, Q = row(6, -9, 0, 3), row(2, -2)
PUSHES = row(1, "-1/2", 3)

# For each function: its parameters in their order, each with its kind and a value.
CALLS = {
    boxes: {
        "is_box": [("thing", "thing", SPRING)],
        "is_small": [("box", "box", WIDE)],
        "made_small": [("box", "box", WIDE)],
        "rest": [("box", "box", WIDE)],
        "beat": [("box", "box", WIDE), ("cells", "cells", row(1, 2)), ("push", "fraction", HALF)],
        "run": [("box", "box", WIDE), ("cells", "cells", row(1, 2)), ("pushes", "row", PUSHES)],
        "echoes": [("box", "box", WIDE), ("k", "from 1", 4)],
        "summed": [("box", "box", WIDE), ("other", "box", LAG)],
        "times": [("box", "box", WIDE), ("f", "fraction", HALF)],
        "late": [("box", "box", WIDE), ("k", "from 0", 2)],
        "turned": [("box", "box", WIDE)],
    },
    numbers: {
        "poly_sum": [("p", "poly", P), ("q", "poly", Q)],
        "poly_times": [("p", "poly", P), ("q", "poly", Q)],
        "poly_parted": [("p", "poly", P), ("q", "poly", Q)],
        "value_at": [("p", "poly", P), ("x", "fraction", HALF)],
        "common_part": [("p", "poly", P), ("q", "poly", Q)],
        "each_once": [("p", "poly", P)],
        "by_multiplicity": [("p", "poly", P)],
        "roots_between": [("p", "poly", P), ("low", "fraction", row(-3)[0]), ("high", "fraction", TWO)],
        "root_spans": [("p", "poly", P), ("low", "fraction", row(-3)[0]), ("high", "fraction", TWO),
                       ("width", "above 0", HALF)],
        "never_below": [("table", "table", FLAT)],
        "row_below": [("table", "table", ODD)],
        "solved": [("table", "table", FLAT), ("row", "cells", row(1, 2))],
        "zeros_outside": [("p", "poly", P)],
    },
    works: {
        "work_of": [("box", "small", SPRING), ("cells", "cells", (ONE,)), ("pushes", "row", PUSHES)],
        "work_sums": [("box", "small", SPRING), ("cells", "cells", (ONE,)), ("pushes", "row", PUSHES)],
        "even_table": [("heard", "not empty", PUSHES)],
        "work_by_table": [("heard", "not empty", PUSHES), ("pushes", "row", PUSHES[:2])],
        "gives_within": [("box", "small", LAG), ("k", "to 12", 3)],
        "giving_row": [("box", "small", LAG), ("k", "to 12", 3)],
        "is_giving_row": [("box", "small", LAG), ("thing", "thing", (ONE, LESS))],
        "first_gift": [("box", "small", LAG), ("bound", "to 12", 3)],
        "turned_row": [("box", "small", SPRING), ("pushes", "row", PUSHES)],
        "work_of_sum": [("box", "small", SPRING), ("other", "small", LAG), ("pushes", "row", PUSHES)],
    },
    curves: {
        "slants": [("box", "small", FADE)],
        "curve": [("box", "small", FADE)],
        "curve_at": [("box", "small", FADE), ("c", "cosine", HALF)],
        "curve_below": [("box", "small", LAG)],
        "parts_of_curve": [("box", "small", KISS)],
        "touches": [("box", "small", KISS), ("width", "width", HALF)],
        "is_loss_free": [("box", "small", RING)],
        "rim_pair": [("c", "inner cosine", HALF)],
        "curve_of_sum": [("box", "small", FADE), ("other", "small", LAG)],
    },
    stores: {
        "squares_for": [("sums", "sums", row(2, "-1/2"))],
        "are_squares": [("sums", "sums", row(2)), ("thing", "thing", ((TWO, (ONE,)),))],
        "square_gap": [("box", "small", FADE)],
        "gap_of": [("box", "small", FADE), ("table", "table", ((ONE,),))],
        "store_by": [("box", "small", FADE), ("square", "table", table([["3/2", "-1/2"], ["-1/2", "1/2"]]))],
        "store": [("box", "small", FADE)],
        "is_store": [("box", "small", FADE), ("thing", "thing", ((ONE,),))],
        "worth": [("table", "table", FLAT), ("cells", "cells", row(1, 2))],
        "stores_mixed": [("table", "table", FLAT), ("other", "table", ODD), ("far", "share", HALF)],
        "store_of_turned": [("box", "small", FADE), ("table", "table", ((ONE,),))],
        "cell_bounds": [("table", "table", FLAT), ("most", "not below 0", ONE)],
        "loss_free_store": [("box", "small", RING)],
    },
    keepers: {
        "is_keeper": [("box", "small", FADE)],
        "paper": [("box", "small", FADE)],
        "is_paper": [("box", "small", LAG), ("thing", "thing", ("curve", LESS))],
        "why_not": [("box", "small", LAG)],
        "keeps_turned": [("box", "small", FADE)],
        "keeps_by_rows": [("box", "small", FADE), ("k", "to 12", 4)],
        "is_border": [("box", "small", FADE)],
        "nearest_keeper": [("box", "small", LAG), ("width", "width", HALF)],
        "echo_bound": [("box", "small", FADE)],
        "keepers_of": [("boxes", "boxes", (LAG, FADE))],
    },
}

NEVER = (None, True, "ab", 1.5, {}, b"ab", object(), {1, 2}, ["a"], [[[[]]]], ((1,),), (1, "1"))
NO_FRACTION = (5, (), (1,), (2, 4), (0, 2), (1, 0), (1, -2), (1, 2, 3), (True, 1), (1, True), (ONE, ONE))
NO_ROW = (5, (1, 2), ((2, 4),), (ONE, 5), (ONE, (1, True)), (ONE, (ONE,)))
NO_TABLE = (5, (ONE,), ((ONE, ONE),), table([[1, 2], [3, 1]]), ((ONE, ONE), (ONE,)), (((2, 4),),))
NO_BOX = (5, (), ((ONE,),), ((ONE,), (ONE,), (ONE,)), ((O,), (ONE,)), ((ONE,), (TWO,)), ((ONE,), (ONE, O)),
          ((ONE, ONE), (ONE,)), ((), ()), (((2, 2),), (ONE,)), ((ONE,), ((True, 1),)))
NO_NUMBER = (-1, ONE, "1", 1.0, None, True, False)
WRONG = {
    "fraction": NEVER + NO_FRACTION,
    "above 0": NEVER + NO_FRACTION + (O, LESS),
    "cosine": NEVER + NO_FRACTION + (TWO, (-2, 1), (10 ** 6 + 1, 10 ** 6), (-3, 2)),
    "inner cosine": NEVER + NO_FRACTION + (ONE, LESS, TWO, (-2, 1)),
    "width": NEVER + NO_FRACTION + (O, LESS, TWO, (1, 10 ** 6 + 1), (10 ** 6 + 1, 10 ** 6)),
    "share": NEVER + NO_FRACTION + (LESS, TWO, (-1, 10 ** 9), (10 ** 9 + 1, 10 ** 9)),
    "not below 0": NEVER + NO_FRACTION + (LESS, (-1, 10 ** 9)),
    "row": NEVER[:4] + NEVER[5:] + NO_ROW,
    "not empty": NEVER + NO_ROW + ((),),
    "sums": NEVER + NO_ROW + ((), row(9, 1, 1, 1, 1, 1, 1)),
    "cells": NEVER[:4] + NEVER[5:] + NO_ROW + ((ONE,) * 3, ()),
    "poly": NEVER[:4] + NEVER[5:] + NO_ROW + ((O,), (ONE, O)),
    "table": NEVER + NO_TABLE + ((table([[1] * 5] * 5)),),
    "box": NEVER + NO_BOX,
    "small": NEVER + NO_BOX + (WIDE, ((ONE, ONE), (ONE, ONE)), ((ONE, O), (ONE, O))),
    "boxes": NEVER[:4] + NEVER[5:] + (5, SPRING, (WIDE,), (SPRING, None), (SPRING, WIDE), ((),)),
    "from 0": NO_NUMBER,
    "from 1": NO_NUMBER + (0,),
    "to 12": NO_NUMBER + (13, 10 ** 30),
}
# Of any TABLE, or none at all, may be handed in here.
ANY_SIZE = {"never_below", "row_below", "solved", "worth", "stores_mixed", "cell_bounds"}


def each_call():
    for module, listed in CALLS.items():
        for name, told in listed.items():
            yield getattr(module, name), name, told


class CallTests(unittest.TestCase):

    def test_names_files_and_arguments(self):
        for function, name, told in each_call():
            with self.subTest(name=name):
                self.assertTrue(inspect.isfunction(function))
                self.assertIn("/" + function.__module__.split(".")[1] + ".py",
                              function.__code__.co_filename)
                self.assertEqual(list(inspect.signature(function).parameters), [own[0] for own in told])

    def test_errors(self):
        for name in ("Unfit", "Stuck", "CanNot", "NoPaper", "TooMany", "BadText"):
            own = getattr(errors, name)
            self.assertEqual(own.__bases__, (ValueError,))
            self.assertEqual(own.__module__, "keepcompany.errors")
        for own in (errors.Unfit, errors.Stuck, errors.CanNot, errors.NoPaper, errors.TooMany):
            self.assertIsInstance(own(), ValueError)
            self.assertEqual(copy.copy(own()).args, ())
        self.assertEqual(copy.copy(errors.BadText(3)).line, 3)
        self.assertEqual(errors.BadText(3).line, 3)
        self.assertEqual(errors.BadText(line=4).line, 4)

    def test_by_names_with_lists_and_twice(self):
        for function, name, told in each_call():
            with self.subTest(name=name):
                plain = [own[2] for own in told]
                shown = function(*plain)
                self.assertEqual(repr(function(**{own[0]: own[2] for own in reversed(told)})), repr(shown))
                wide = [own[2] if own[1] == "thing" else lists(own[2]) for own in told]
                kept = copy.deepcopy(wide)
                self.assertEqual(repr(function(*wide)), repr(shown))
                self.assertEqual(wide, kept)
                for at in range(len(told)):
                    if told[at][1] != "thing" and isinstance(plain[at], tuple):
                        half = list(plain)
                        half[at] = tuple(lists(own) for own in plain[at])
                        self.assertEqual(repr(function(*half)), repr(shown))
                self.assertEqual(repr(function(*plain)), repr(shown))

    def test_lists_within_what_is_returned_are_none(self):
        def no_lists(x):
            return not isinstance(x, list) and (not isinstance(x, tuple) or all(map(no_lists, x)))

        for function, name, told in each_call():
            with self.subTest(name=name):
                self.assertTrue(no_lists(function(*[own[2] if own[1] == "thing" else lists(own[2])
                                                    for own in told])))

    def test_unfit(self):
        for function, name, told in each_call():
            for at, (parameter, kind, _) in enumerate(told):
                for wrong in WRONG.get(kind, ()):
                    if name in ANY_SIZE and kind == "table" and wrong == WRONG["table"][-1]:
                        continue
                    if wrong == [[[[]]]] and kind == "table":
                        continue
                    with self.subTest(name=name, parameter=parameter, wrong=wrong):
                        given = [own[2] for own in told]
                        given[at] = wrong
                        with self.assertRaises(Unfit):
                            function(*given)

    def test_deep_lists_are_unfit(self):
        deep = []
        for _ in range(50000):
            deep = [deep]
        for function, name, told in each_call():
            for at, (_, kind, _) in enumerate(told):
                given = [own[2] for own in told]
                given[at] = deep
                if kind == "thing":
                    self.assertIs(function(*given), False)
                else:
                    with self.assertRaises(Unfit):
                        function(*given)

    def test_unfit_ahead_of_all_else(self):
        damp = box([-1], [1])
        for call in (lambda: boxes.times(SPRING, (0, 2)), lambda: boxes.summed(LAG, (5,)),
                     lambda: numbers.poly_parted(P, (O,)), lambda: numbers.roots_between((), ONE, O),
                     lambda: numbers.roots_between((), ONE, ONE),
                     lambda: numbers.root_spans((), O, ONE, O), lambda: works.turned_row(LAG, (5,)),
                     lambda: works.giving_row(SPRING, 13), lambda: curves.touches(SPRING, TWO),
                     lambda: stores.store_of_turned(LAG, ()), lambda: stores.store_by(FADE, ((ONE,),)),
                     lambda: stores.cell_bounds(ODD, LESS), lambda: keepers.nearest_keeper(damp, O),
                     lambda: keepers.keepers_of((damp, WIDE))):
            with self.assertRaises(Unfit):
                call()

    def test_things_are_taken_as_they_are(self):
        calls = [(boxes.is_box, (), SPRING), (works.is_giving_row, (LAG,), (ONE, LESS)),
                 (stores.are_squares, (row(2),), ((TWO, (ONE,)),)), (stores.is_store, (FADE,), ((ONE,),)),
                 (keepers.is_paper, (FADE,), ("store", ((ONE,),))), (keepers.is_paper, (LAG,), ("curve", LESS)),
                 (keepers.is_paper, (LAG,), ("damper",))]
        for function, ahead, thing in calls[:6]:
            self.assertIs(function(*ahead, thing), True)
            for wrong in spoiled(thing):
                with self.subTest(name=function.__name__, wrong=wrong):
                    self.assertIs(function(*ahead, wrong), False)
            for wrong in (None, True, False, 0, 1, -3, "", "store", [], (), ((),), [[]], ((((((((1,),),),),),),),)):
                self.assertIs(function(*ahead, wrong), False)


def spoiled(thing):
    """thing with one part of it as a list, or with True for 1, and one part too many."""
    if isinstance(thing, tuple):
        yield list(thing)
        yield thing + (thing[-1],) if thing and thing[-1] != ONE else list(thing) + [None]
        for k, own in enumerate(thing):
            for wrong in spoiled(own):
                yield thing[:k] + (wrong,) + thing[k + 1:]
    elif thing == 1 and thing is not True:
        yield True
        yield "1"
        yield 1.5


if __name__ == "__main__":
    unittest.main()
