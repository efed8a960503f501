"""What test_calls.py calls: each function with a value for each argument, and what is wrong there."""

from keepcompany import (alone, boxes, curves, desk, drawn, holes, judge, keepers, logs, loops, mixtures, numbers,
                         parts, runaways, shares, stores, takings, texts, told, whoever, works)

from helpers import HALF, LESS, O, ONE, TWO, box, row, table

SPRING = box([1, 1], [1, -1])
FADE = box([1, 0], [1, "-1/2"])
LAG = box([0, 1], [1, 0])
RING = box([1, 0, -1], [1, "-6/5", 1])
RUB = box([2], [1])
WIDE = box([1, 0, -1], [1, -2, 1])
KISS = box([3, -4, 2], [1, 0, 0])
FLAT = table([[2, 1], [1, 1]])
ODD = table([[1, 2], [2, 1]])
P, Q = row(6, -9, 0, 3), row(2, -2)
PUSHES = row(1, "-1/2", 3)
PART = ("spring", HALF)
TARDY = box([0, 1], [1, "-1/2"])
TWICE = box([0, 0, 1], [1, 0, 0])
FOUR = row("10/3", "10/3", 0, 2)
RUN = ((row(-5, 0), row(1, 0)), (row(0, -5), row(0, 1)), (row(20, 0), row(-4, 0)))
SCRIPT = ((2, ("damper", (1, 3))), (1, ("spring", ONE)))
PUSH = box([-1], [1])
DAMPED = box([2, 0], [1, -1])
SOFT = box([1, "1/2"], [1, "1/3"])
PULL = box([-1, -1], [1, -1])
STUCK = box([1], [1])
GREAT = box([1, 0, 0, 1], [1, 0, 0, 0])
MASSES = box([2, 0, 2], [1, 0, -1])
HEARD = row(1, "1/2", "-1/3")
OFF = row(1, "1/2", -3)
SEEN = ((ONE, ONE), (HALF, (3, 2)), (O, ONE))
ODDLY = ((ONE, ONE), (ONE, (4, 1)))
CLAIM = ("share", RUB, ONE)
CLAIMS = (CLAIM, ("keeper", LAG), ("told", HEARD), ("hole", RUB, HEARD), ("log", SEEN))
REQUESTS = "add damper 1/2\npush 1 0\nlate 1\nundo\nbox"

# The interface of point [25]: what each file defines.
INTERFACE = """
numbers: poly_sum poly_times poly_parted value_at common_part each_once by_multiplicity roots_between root_spans
    never_below row_below solved zeros_outside
boxes: is_box is_small made_small rest beat run echoes summed times late turned
works: work_of work_sums even_table work_by_table gives_within giving_row is_giving_row first_gift turned_row
    work_of_sum
curves: slants curve curve_at curve_below parts_of_curve touches is_loss_free rim_pair curve_of_sum
stores: squares_for are_squares square_gap gap_of store_by store is_store worth stores_mixed store_of_turned
    cell_bounds loss_free_store
keepers: is_keeper paper is_paper why_not keeps_turned keeps_by_rows is_border nearest_keeper echo_bound keepers_of
parts: is_part part_box part_store part_work parts_box spring_and_mass tone edge_of in_sector pair_at
loops: is_stuck loop joined_beat joined_run pushed_run joined_worth joined_bound runs_away outside_of joined_gift
alone: marks spans runs_with is_quiet one_part is_one_part one_of_kind kinds_that_run stuck_amount least_amount
    part_for_times
runaways: pair is_pair near_zero pair_near growth pair_loop pair_run is_pair_run row_of_pair passes pair_for_times
whoever: is_script script_run script_worths stays dampers_run put_in bound_for is_within worst_exchange held_still
drawn: most_drawn drawing_row is_drawing_row rises drawn_table need needing_row come_to between never_more drawn_all
shares: with_damper share share_papers is_share least_damper inner_share keeps_with_share safe_from pair_of_share
    is_pair_of_share share_of_sum
mixtures: mixed keep_span is_keep_span crowd lots_that_keep least_lots pairs_that_keep spoilers damper_for_all
    failing_lot
takings: most_spring most_mass most_ring taken is_most after_all late_spring late_mass late_row lag_damper
    lags_borne wall wall_damper
told: can_be first_off row_for_all is_row_for_all next_stretch led_on end_box some_box only_one steps_of from_steps
holes: outer_of inner_echoes outer_echoes could_show why_none first_strange next_outer outer_end is_first
    same_inside
logs: is_log echoes_of log_of could_be surely_gives next_answer log_end logs_agree put_in_of whoever_could
judge: is_claim is_so claim_paper is_claim_paper shows not_so words_so turned_by
texts: fraction_text fraction_in box_text box_in script_text script_in log_text log_in
office: Office
desk: is_request replies last_office
"""
# The methods of an Office, with their parameters.
METHODS = {"__init__": ["box"], "do": ["edit"], "undo": [], "redo": [], "edits": [], "twin": [], "box_now": [],
           "keeps": [], "alone": [], "heard": ["pushes"], "__len__": [], "__eq__": ["other"]}

# For each function: its parameters in their order, each with its kind and a value.
CALLS = {
    boxes: {
        "is_box": [("thing", "thing", SPRING)],
        "is_small": [("box", "box", WIDE)],
        "made_small": [("box", "box", WIDE)],
        "rest": [("box", "box", WIDE)],
        "beat": [("box", "box", WIDE), ("cells", "cells", row(1, 2)), ("push", "fraction", HALF)],
        "run": [("box", "box", WIDE), ("cells", "cells", row(1, 2)), ("pushes", "row", PUSHES)],
        "echoes": [("box", "box", WIDE), ("k", "from 1", 4)],
        "summed": [("box", "box", WIDE), ("other", "box", LAG)],
        "times": [("box", "box", WIDE), ("f", "fraction", HALF)],
        "late": [("box", "box", WIDE), ("k", "from 0", 2)],
        "turned": [("box", "box", WIDE)],
    },
    numbers: {
        "poly_sum": [("p", "poly", P), ("q", "poly", Q)],
        "poly_times": [("p", "poly", P), ("q", "poly", Q)],
        "poly_parted": [("p", "poly", P), ("q", "poly", Q)],
        "value_at": [("p", "poly", P), ("x", "fraction", HALF)],
        "common_part": [("p", "poly", P), ("q", "poly", Q)],
        "each_once": [("p", "poly", P)],
        "by_multiplicity": [("p", "poly", P)],
        "roots_between": [("p", "poly", P), ("low", "fraction", row(-3)[0]), ("high", "fraction", TWO)],
        "root_spans": [("p", "poly", P), ("low", "fraction", row(-3)[0]), ("high", "fraction", TWO),
                       ("width", "above 0", HALF)],
        "never_below": [("table", "table", FLAT)],
        "row_below": [("table", "table", ODD)],
        "solved": [("table", "table", FLAT), ("row", "cells", row(1, 2))],
        "zeros_outside": [("p", "poly", P)],
    },
    works: {
        "work_of": [("box", "small", SPRING), ("cells", "cells", (ONE,)), ("pushes", "row", PUSHES)],
        "work_sums": [("box", "small", SPRING), ("cells", "cells", (ONE,)), ("pushes", "row", PUSHES)],
        "even_table": [("heard", "not empty", PUSHES)],
        "work_by_table": [("heard", "not empty", PUSHES), ("pushes", "row", PUSHES[:2])],
        "gives_within": [("box", "small", LAG), ("k", "to 12", 3)],
        "giving_row": [("box", "small", LAG), ("k", "to 12", 3)],
        "is_giving_row": [("box", "small", LAG), ("thing", "thing", (ONE, LESS))],
        "first_gift": [("box", "small", LAG), ("bound", "to 12", 3)],
        "turned_row": [("box", "small", SPRING), ("pushes", "row", PUSHES)],
        "work_of_sum": [("box", "small", SPRING), ("other", "small", LAG), ("pushes", "row", PUSHES)],
    },
    curves: {
        "slants": [("box", "small", FADE)],
        "curve": [("box", "small", FADE)],
        "curve_at": [("box", "small", FADE), ("c", "cosine", HALF)],
        "curve_below": [("box", "small", LAG)],
        "parts_of_curve": [("box", "small", KISS)],
        "touches": [("box", "small", KISS), ("width", "width", HALF)],
        "is_loss_free": [("box", "small", RING)],
        "rim_pair": [("c", "inner cosine", HALF)],
        "curve_of_sum": [("box", "small", FADE), ("other", "small", LAG)],
    },
    stores: {
        "squares_for": [("sums", "sums", row(2, "-1/2"))],
        "are_squares": [("sums", "sums", row(2)), ("thing", "thing", ((TWO, (ONE,)),))],
        "square_gap": [("box", "small", FADE)],
        "gap_of": [("box", "small", FADE), ("table", "table", ((ONE,),))],
        "store_by": [("box", "small", FADE), ("square", "table", table([["3/2", "-1/2"], ["-1/2", "1/2"]]))],
        "store": [("box", "small", FADE)],
        "is_store": [("box", "small", FADE), ("thing", "thing", ((ONE,),))],
        "worth": [("table", "table", FLAT), ("cells", "cells", row(1, 2))],
        "stores_mixed": [("table", "table", FLAT), ("other", "table", ODD), ("far", "share", HALF)],
        "store_of_turned": [("box", "small", FADE), ("table", "table", ((ONE,),))],
        "cell_bounds": [("table", "table", FLAT), ("most", "not below 0", ONE)],
        "loss_free_store": [("box", "small", RING)],
    },
    keepers: {
        "is_keeper": [("box", "small", FADE)],
        "paper": [("box", "small", FADE)],
        "is_paper": [("box", "small", LAG), ("thing", "thing", ("curve", LESS))],
        "why_not": [("box", "small", LAG)],
        "keeps_turned": [("box", "small", FADE)],
        "keeps_by_rows": [("box", "small", FADE), ("k", "to 12", 4)],
        "is_border": [("box", "small", FADE)],
        "nearest_keeper": [("box", "small", LAG), ("width", "width", HALF)],
        "echo_bound": [("box", "small", FADE)],
        "keepers_of": [("boxes", "boxes", (LAG, FADE))],
    },
    parts: {
        "is_part": [("thing", "thing", PART)],
        "part_box": [("part", "part", PART)],
        "part_store": [("part", "part", PART)],
        "part_work": [("part", "part", PART), ("pushes", "row", PUSHES)],
        "parts_box": [("parts", "parts", (PART, ("damper", ONE)))],
        "spring_and_mass": [("p", "not below 0", ONE), ("q", "not below 0", TWO)],
        "tone": [("box", "small", FADE), ("a", "fraction", TWO), ("b", "fraction", LESS)],
        "edge_of": [("a", "fraction", TWO), ("b", "fraction", LESS)],
        "in_sector": [("a", "fraction", TWO), ("b", "fraction", ONE), ("x", "fraction", ONE), ("y", "fraction", O)],
        "pair_at": [("box", "small", LAG), ("a", "fraction", LESS), ("b", "not below 0", ONE)],
    },
    loops: {
        "is_stuck": [("box", "small", FADE), ("other", "small", LAG)],
        "loop": [("box", "small", FADE), ("other", "small", LAG)],
        "joined_beat": [("box", "small", FADE), ("cells", "cells", (ONE,)), ("other", "small", RUB),
                        ("other_cells", "no cells", ())],
        "joined_run": [("box", "small", FADE), ("cells", "cells", (ONE,)), ("other", "small", LAG),
                       ("other_cells", "cells", (TWO,)), ("beats", "to 40", 3)],
        "pushed_run": [("box", "small", FADE), ("cells", "cells", (ONE,)), ("other", "small", LAG),
                       ("other_cells", "cells", (TWO,)), ("pushes", "40 pushes", PUSHES)],
        "joined_worth": [("table", "table", FLAT), ("cells", "cells", row(1, 2)), ("other_table", "table", ((ONE,),)),
                         ("other_cells", "cells", (TWO,))],
        "joined_bound": [("table", "table", FLAT), ("cells", "cells", row(1, 2)), ("other_table", "table", ((ONE,),)),
                         ("other_cells", "cells", (TWO,))],
        "runs_away": [("box", "small", FADE), ("other", "small", LAG)],
        "outside_of": [("box", "small", FADE), ("other", "small", LAG)],
        "joined_gift": [("box", "small", FADE), ("other", "small", LAG), ("pushes", "40 pushes", PUSHES)],
    },
    alone: {
        "marks": [("box", "small", TARDY), ("kind", "kind", "spring"), ("width", "width", HALF)],
        "spans": [("box", "small", TARDY), ("kind", "kind", "spring"), ("width", "width", HALF)],
        "runs_with": [("box", "small", TARDY), ("part", "part", PART)],
        "is_quiet": [("box", "small", TARDY), ("part", "part", PART)],
        "one_part": [("box", "small", TARDY)],
        "is_one_part": [("box", "small", TARDY), ("thing", "thing", ("damper", TWO))],
        "one_of_kind": [("box", "small", TARDY), ("kind", "kind", "mass")],
        "kinds_that_run": [("box", "small", TARDY)],
        "stuck_amount": [("box", "small", PUSH)],
        "least_amount": [("box", "small", TARDY), ("kind", "kind", "damper"), ("width", "width", HALF)],
        "part_for_times": [("factor", "above 0", TWO), ("part", "part", PART)],
    },
    runaways: {
        "pair": [("box", "small", TWICE)],
        "is_pair": [("box", "small", TWICE), ("thing", "thing", FOUR)],
        "near_zero": [("box", "small", TARDY), ("part", "part", ("spring", ONE)), ("width", "width", HALF)],
        "pair_near": [("box", "small", TWICE), ("across", "fraction", O), ("up", "not below 0", TWO),
                      ("deep", "to 30", 3)],
        "growth": [("four", "four", FOUR)],
        "pair_loop": [("box", "small", TWICE), ("four", "pair", FOUR)],
        "pair_run": [("box", "small", TWICE), ("four", "pair", FOUR), ("beats", "to 40", 3)],
        "is_pair_run": [("box", "small", TWICE), ("four", "pair", FOUR), ("thing", "thing", RUN)],
        "row_of_pair": [("box", "small", TWICE), ("four", "pair", FOUR), ("bound", "not below 0", ONE)],
        "passes": [("rows", "states", RUN), ("bound", "not below 0", ONE)],
        "pair_for_times": [("factor", "above 0", TWO), ("four", "four", FOUR)],
    },
    whoever: {
        "is_script": [("thing", "thing", SCRIPT)],
        "script_run": [("box", "small", FADE), ("cells", "cells", (ONE,)), ("script", "script", SCRIPT)],
        "script_worths": [("box", "small", FADE), ("table", "table", ((TWO,),)), ("cells", "cells", (ONE,)),
                          ("script", "script", SCRIPT)],
        "stays": [("box", "small", FADE), ("table", "table", ((TWO,),)), ("cells", "cells", (ONE,)),
                  ("script", "script", SCRIPT)],
        "dampers_run": [("box", "small", FADE), ("cells", "cells", (ONE,)), ("amounts", "amounts", row(0, 1))],
        "put_in": [("box", "small", FADE), ("cells", "cells", (ONE,)), ("pushes", "row", PUSHES)],
        "bound_for": [("table", "table", FLAT), ("cells", "cells", row(1, 2)), ("most", "not below 0", ONE)],
        "is_within": [("box", "small", FADE), ("table", "table", ((TWO,),)), ("cells", "cells", (ONE,)),
                      ("pushes", "row", PUSHES), ("most", "not below 0", ONE)],
        "worst_exchange": [("box", "small", FADE), ("table", "table", ((TWO,),)), ("cells", "cells", (ONE,)),
                           ("scripts", "scripts", ((), SCRIPT))],
        "held_still": [("box", "small", FADE), ("cells", "cells", (ONE,)), ("k", "to 40", 3)],
    },
    drawn: {
        "most_drawn": [("box", "small", DAMPED), ("cells", "cells", (ONE,)), ("k", "to 8", 3)],
        "drawing_row": [("box", "small", DAMPED), ("cells", "cells", (ONE,)), ("k", "to 8", 3)],
        "is_drawing_row": [("box", "small", DAMPED), ("cells", "cells", (ONE,)), ("k", "to 8", 2),
                           ("thing", "thing", row("-1/3", "-1/3"))],
        "rises": [("box", "small", DAMPED), ("cells", "cells", (ONE,)), ("k", "to 8", 3)],
        "drawn_table": [("box", "small", DAMPED), ("k", "to 8", 3)],
        "need": [("box", "small", DAMPED), ("cells", "cells", (ONE,)), ("k", "to 8", 3)],
        "needing_row": [("box", "small", DAMPED), ("cells", "cells", (ONE,)), ("k", "to 8", 3)],
        "come_to": [("box", "small", DAMPED), ("cells", "cells", (ONE,)), ("k", "to 8", 3)],
        "between": [("box", "small", DAMPED), ("table", "table", ((TWO,),)), ("cells", "cells", (ONE,)),
                    ("k", "to 8", 3)],
        "never_more": [("box", "small", DAMPED), ("table", "table", ((TWO,),)), ("k", "to 8", 3)],
        "drawn_all": [("box", "small", RING), ("cells", "cells", row(1, 2))],
    },
    shares: {
        "with_damper": [("box", "small", LAG), ("e", "fraction", LESS)],
        "share": [("box", "small", LAG), ("width", "width", HALF)],
        "share_papers": [("box", "small", LAG), ("low", "fraction", (-2, 1)), ("high", "fraction", O)],
        "is_share": [("box", "small", RUB), ("low", "fraction", ONE), ("high", "fraction", row(3)[0]),
                     ("thing", "thing", ((), row(2, 0, -3, 0)))],
        "least_damper": [("box", "small", LAG), ("width", "width", HALF)],
        "inner_share": [("box", "small", LAG), ("e", "not below 0", HALF)],
        "keeps_with_share": [("box", "small", PUSH), ("e", "not below 0", HALF)],
        "safe_from": [("box", "small", PUSH), ("width", "width", HALF)],
        "pair_of_share": [("box", "small", PUSH), ("e", "not below 0", HALF)],
        "is_pair_of_share": [("box", "small", PUSH), ("e", "not below 0", HALF), ("thing", "thing", row(1, 0, -3, 0))],
        "share_of_sum": [("box", "small", FADE), ("other", "small", LAG), ("width", "width", HALF)],
    },
    mixtures: {
        "mixed": [("box", "small", RUB), ("other", "small", LAG), ("k", "fraction", TWO)],
        "keep_span": [("box", "small", RUB), ("other", "small", LAG), ("width", "width", HALF)],
        "is_keep_span": [("box", "small", RUB), ("other", "small", LAG), ("low", "fraction", TWO),
                         ("high", "fraction", row(3)[0])],
        "crowd": [("boxes", "six boxes", (RUB, LAG))],
        "lots_that_keep": [("boxes", "six boxes", (RUB, LAG))],
        "least_lots": [("boxes", "six boxes", (RUB, LAG))],
        "pairs_that_keep": [("boxes", "six boxes", (RUB, LAG))],
        "spoilers": [("boxes", "six boxes", (RUB, LAG))],
        "damper_for_all": [("boxes", "six boxes", (RUB, LAG)), ("width", "width", HALF)],
        "failing_lot": [("boxes", "six boxes", (RUB, LAG)), ("e", "fraction", O)],
    },
    takings: {
        "most_spring": [("box", "small", DAMPED)],
        "most_mass": [("box", "small", MASSES)],
        "most_ring": [("box", "small", RING), ("c", "inner cosine", (3, 5))],
        "taken": [("box", "small", DAMPED), ("part", "part", PART)],
        "is_most": [("box", "small", DAMPED), ("thing", "thing", ("damper", ONE))],
        "after_all": [("box", "small", DAMPED)],
        "late_spring": [("amount", "above 0", HALF), ("k", "to 3", 2)],
        "late_mass": [("amount", "above 0", HALF), ("k", "to 3", 2)],
        "late_row": [("box", "small", DAMPED), ("k", "1 to 3", 2)],
        "lag_damper": [("box", "small", DAMPED), ("k", "to 3", 1), ("width", "width", HALF)],
        "lags_borne": [("box", "small", DAMPED), ("e", "fraction", TWO)],
        "wall": [("stiff", "above 0", HALF), ("rub", "not below 0", ONE), ("k", "to 3", 1)],
        "wall_damper": [("stiff", "above 0", HALF), ("rub", "not below 0", ONE), ("k", "to 3", 1),
                        ("width", "width", HALF)],
    },
    told: {
        "can_be": [("heard", "heard", HEARD)],
        "first_off": [("heard", "heard", OFF)],
        "row_for_all": [("heard", "heard", OFF)],
        "is_row_for_all": [("heard", "heard", OFF), ("thing", "thing", row(1, 0, 1))],
        "next_stretch": [("heard", "heard", HEARD)],
        "led_on": [("heard", "heard", HEARD), ("k", "to 40", 3)],
        "end_box": [("heard", "heard", HEARD), ("which", "which", 1)],
        "some_box": [("heard", "heard", HEARD)],
        "only_one": [("heard", "heard", row(1, 2))],
        "steps_of": [("heard", "heard", HEARD)],
        "from_steps": [("first", "above 0", HALF), ("steps", "steps", row("1/3", "-1/2", 1, 0))],
    },
    holes: {
        "outer_of": [("box", "small", FADE), ("other", "small", LAG)],
        "inner_echoes": [("box", "small", FADE), ("outer", "outer", HEARD)],
        "outer_echoes": [("box", "small", FADE), ("within", "outer", HEARD)],
        "could_show": [("box", "small", FADE), ("outer", "outer", HEARD)],
        "why_none": [("box", "small", FADE), ("outer", "outer", row(2, 5))],
        "first_strange": [("box", "small", FADE), ("outer", "outer", HEARD)],
        "next_outer": [("box", "small", RUB), ("outer", "outer", row(1, "1/3"))],
        "outer_end": [("box", "small", RUB), ("outer", "outer", row(1, "1/3")), ("which", "which", 0)],
        "is_first": [("box", "small", RUB), ("number", "fraction", HALF)],
        "same_inside": [("box", "small", RUB), ("outer", "outer", (ONE,)), ("other", "small", STUCK),
                        ("other_outer", "outer", (HALF,))],
    },
    logs: {
        "is_log": [("thing", "thing", SEEN)],
        "echoes_of": [("log", "log", SEEN)],
        "log_of": [("box", "small", FADE), ("pushes", "pushes", PUSHES)],
        "could_be": [("log", "told log", SEEN)],
        "surely_gives": [("log", "told log", ODDLY)],
        "next_answer": [("log", "told log", SEEN), ("push", "fraction", HALF)],
        "log_end": [("log", "told log", SEEN), ("push", "fraction", HALF), ("which", "which", 1)],
        "logs_agree": [("log", "log", SEEN), ("other_log", "log", ODDLY)],
        "put_in_of": [("log", "log", SEEN)],
        "whoever_could": [("log", "log", SEEN)],
    },
    judge: {
        "is_claim": [("thing", "thing", CLAIM)],
        "is_so": [("claim", "claim", CLAIM)],
        "claim_paper": [("claim", "claim", CLAIM)],
        "is_claim_paper": [("claim", "claim", CLAIM), ("thing", "thing", ())],
        "shows": [("claim", "claim", CLAIM), ("thing", "thing", ())],
        "not_so": [("claims", "claims", CLAIMS)],
        "words_so": [("claims", "claims", CLAIMS)],
        "turned_by": [("claims", "claims", CLAIMS), ("box", "small", SPRING)],
    },
    texts: {
        "fraction_text": [("value", "fraction", HALF)],
        "fraction_in": [("word", "string", "-3/2")],
        "box_text": [("box", "small", FADE)],
        "box_in": [("text", "string", "tops 1 1/2\nbottoms 1 -1")],
        "script_text": [("script", "script", SCRIPT)],
        "script_in": [("text", "string", "3 spring 1/2\n1 mass 5")],
        "log_text": [("log", "log", SEEN)],
        "log_in": [("text", "string", "1 1\n0 -3/2")],
    },
    desk: {
        "is_request": [("line", "string", "add damper 1/2")],
        "replies": [("box", "small", SPRING), ("text", "string", REQUESTS)],
        "last_office": [("box", "small", SPRING), ("text", "string", REQUESTS)],
    },
}
# Where lists are given back, in which things of tuples stand.
GIVES_LISTS = {"marks", "spans", "lots_that_keep", "least_lots", "pairs_that_keep", "replies"}

NEVER = (None, True, "ab", 1.5, {}, b"ab", object(), {1, 2}, ["a"], [[[[]]]], ((1,),), (1, "1"))
NO_FRACTION = (5, (), (1,), (2, 4), (0, 2), (1, 0), (1, -2), (1, 2, 3), (True, 1), (1, True), (ONE, ONE))
NO_ROW = (5, (1, 2), ((2, 4),), (ONE, 5), (ONE, (1, True)), (ONE, (ONE,)))
NO_TABLE = (5, (ONE,), ((ONE, ONE),), table([[1, 2], [3, 1]]), ((ONE, ONE), (ONE,)), (((2, 4),),))
NO_BOX = (5, (), ((ONE,),), ((ONE,), (ONE,), (ONE,)), ((O,), (ONE,)), ((ONE,), (TWO,)), ((ONE,), (ONE, O)),
          ((ONE, ONE), (ONE,)), ((), ()), (((2, 2),), (ONE,)), ((ONE,), ((True, 1),)))
NO_NUMBER = (-1, ONE, "1", 1.0, None, True, False)
NO_PART = (5, (), ("spring",), ("Spring", ONE), ("spring", O), ("spring", LESS), ("spring", (2, 2)), ("spring", 1),
           ("spring", ONE, ONE), (ONE, "spring"), ("rod", ONE), ("spring", (True, 1)), ("spring", (1, 1, 1)),
           (("spring",), ONE), (["spring"], ONE), (None, ONE), "spring", ("", ONE), ("springs", ONE))
NO_FOUR = (5, (), FOUR[:3], FOUR + (ONE,), row(0, 0, 0, 2), row(-1, 1, 0, 2), row(1, -1, 0, 2), row(1, 1, 0, -2),
           row(1, 1, 1, 0), row(1, 1, "3/5", "4/5"), row(1, 1, 0, 0), (ONE, ONE, O, 2), (ONE, ONE, O, (2, True)),
           (ONE, ONE, O, (4, 2)), (1, 1, 0, 2))
NO_SCRIPT = (5, ((0, PART),), ((-1, PART),), ((True, PART),), ((ONE, PART),), ((1, PART, 1),), ((1,),), (1, PART),
             ((1, ("rod", ONE)),), ((1, ("spring", O)),), ((None, PART),), (PART,), ((2, PART), None), (((2, PART),),))
NO_HEARD = NEVER + NO_ROW + ((), (ONE,) * 13)
NO_LOG = NEVER + (5, (), (ONE,), ONE, ((O, ONE),), ((ONE,),), ((ONE, ONE, ONE),), ((ONE, ONE), (ONE,)), (ONE, ONE),
                  ((ONE, (2, 2)),), ((ONE, 1),), ((ONE, ONE), None), (((True, 1), ONE),), ((ONE, (1, True)),))
# The values of each are no CLAIMS, also where lists are taken for tuples.
NO_CLAIM = NEVER + (
    5, (), ("keeper",), ("Keeper", RUB), ("keeper", RUB, RUB), ("keeper", WIDE), ("keepers", RUB), (RUB, "keeper"),
    (["keeper"], RUB), (True, RUB), ("alone", ()), ("alone", RUB, ONE), ("pair",), ("pair", None), ("share", RUB),
    ("share", RUB, LESS), ("share", RUB, (2, 2)), ("share", WIDE, ONE), ("share", RUB, ONE, ONE), ("share", ONE, RUB),
    ("company", RUB), ("company", RUB, (-1, 9)), ("company", RUB, 1), ("told", ()), ("told", (O, O)),
    ("told", (ONE,) * 13), ("told", RUB), ("told", (ONE,), (ONE,)), ("told", ONE), ("hole", RUB), ("hole", RUB, ()),
    ("hole", RUB, (ONE,) * 13), ("hole", (ONE,), RUB), ("hole", WIDE, (ONE,)), ("hole", RUB, ONE), ("log",), ("log", ()),
    ("log", ((O, ONE),)), ("log", ((ONE, O),)), ("log", ((ONE, O), (TWO, O))), ("log", (ONE,)), ("log", SEEN, SEEN),
    ("office", RUB), ("", RUB))
WRONG = {
    "fraction": NEVER + NO_FRACTION,
    "above 0": NEVER + NO_FRACTION + (O, LESS),
    "cosine": NEVER + NO_FRACTION + (TWO, (-2, 1), (10 ** 6 + 1, 10 ** 6), (-3, 2)),
    "inner cosine": NEVER + NO_FRACTION + (ONE, LESS, TWO, (-2, 1)),
    "width": NEVER + NO_FRACTION + (O, LESS, TWO, (1, 10 ** 6 + 1), (10 ** 6 + 1, 10 ** 6)),
    "share": NEVER + NO_FRACTION + (LESS, TWO, (-1, 10 ** 9), (10 ** 9 + 1, 10 ** 9)),
    "not below 0": NEVER + NO_FRACTION + (LESS, (-1, 10 ** 9)),
    "row": NEVER[:4] + NEVER[5:] + NO_ROW,
    "not empty": NEVER + NO_ROW + ((),),
    "sums": NEVER + NO_ROW + ((), row(9, 1, 1, 1, 1, 1, 1)),
    "cells": NEVER[:4] + NEVER[5:] + NO_ROW + ((ONE,) * 3, ()),
    "poly": NEVER[:4] + NEVER[5:] + NO_ROW + ((O,), (ONE, O)),
    "table": NEVER + NO_TABLE + ((table([[1] * 5] * 5)),),
    "box": NEVER + NO_BOX,
    "small": NEVER + NO_BOX + (WIDE, ((ONE, ONE), (ONE, ONE)), ((ONE, O), (ONE, O))),
    "boxes": NEVER[:4] + NEVER[5:] + (5, SPRING, (WIDE,), (SPRING, None), (SPRING, WIDE), ((),)),
    "from 0": NO_NUMBER,
    "from 1": NO_NUMBER + (0,),
    "to 12": NO_NUMBER + (13, 10 ** 30),
    "to 8": NO_NUMBER + (9, 10 ** 30),
    "to 30": NO_NUMBER + (31, 10 ** 30),
    "to 40": NO_NUMBER + (41, 10 ** 30),
    "40 pushes": NEVER[:4] + NEVER[5:] + NO_ROW + ((O,) * 41,),
    "no cells": NEVER[:4] + NEVER[5:] + NO_ROW + ((ONE,),),
    "part": NEVER + NO_PART,
    "parts": NEVER[:4] + NEVER[5:] + ((), PART, 5, (PART, None)) + tuple((PART, own) for own in NO_PART),
    "kind": NEVER[:2] + NEVER[3:] + (5, "", "Spring", "springs", "dampers", ("spring",), ["mass"], "spring ", PART),
    "four": NEVER + NO_FOUR,
    "pair": NEVER + NO_FOUR + (FOUR[:3] + ((3, 1),), row("10/3", "10/3", "1/10", 2), row("10/3", 3, 0, 2)),
    "states": NEVER[:4] + NEVER[5:] + (5, RUN[0], ((ONE,),), ((ONE, ONE),), (RUN[0] + ((),),), (((ONE,), (ONE, 5)),),
                                       (((ONE,), (ONE,)), None), (((2, 2),), ())),
    "script": NEVER[:4] + NEVER[5:] + NO_SCRIPT,
    "scripts": NEVER[:4] + NEVER[5:] + ((), SCRIPT) + tuple((SCRIPT, own) for own in NO_SCRIPT),
    "amounts": NEVER[:4] + NEVER[5:] + NO_ROW + ((LESS,), row(1, 2, "-1/9")),
    "to 3": NO_NUMBER + (4, 10 ** 30),
    "1 to 3": NO_NUMBER + (0, 4, 10 ** 30),
    "which": NO_NUMBER + (2, 10 ** 30, O),
    "heard": NO_HEARD + ((O,), (O,) * 12),
    "outer": NO_HEARD,
    "steps": NEVER[:4] + NEVER[5:] + NO_ROW + ((TWO,), row("1/2", "-9/8"), row(1, "1/2"), row(-1, 0, 1), (O,) * 12),
    "pushes": NEVER + NO_ROW + ((), row(0, 1), (O,)),
    "log": NO_LOG,
    "told log": NO_LOG + (((ONE, O),), ((ONE, O), (TWO, O))),
    "claim": NO_CLAIM,
    "claims": (None, True, "ab", 1.5, {}, b"ab", object(), ["a"], CLAIM, (None,)) + tuple((own,) for own in NO_CLAIM[9:])
              + tuple((CLAIM, own) for own in NO_CLAIM[9:]),
    "string": (None, True, False, 5, 1.5, (), [], ("keeps",), ["keeps"], b"keeps", {}, object()),
    "six boxes": NEVER[:4] + NEVER[5:] + (5, (), SPRING, (WIDE,), (SPRING, None), (SPRING, WIDE), ((),), (RUB,) * 7),
}
# Of any TABLE, or none at all, may be handed in here.
ANY_SIZE = {"never_below", "row_below", "solved", "worth", "stores_mixed", "cell_bounds"}
