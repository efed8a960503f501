"""Point [24]: requests to an Office, a line each, and the replies."""

import random
import unittest
from fractions import Fraction

from keepcompany.desk import is_request, last_office, replies
from keepcompany.errors import BadText, CanNot, TooMany, Unfit
from keepcompany.loops import is_stuck, runs_away
from keepcompany.office import Office
from keepcompany.parts import part_box
from keepcompany.texts import box_in, box_text
from keepcompany.told import end_box, from_steps

from helpers import BIG, HALF, ONE, TWO, answers_by_hand, box, lists, pair, row
from makers import damper, keeper, small_box, spring

COIL = spring(1)
GOOD = ("add spring 1", "add mass 1/2", "add damper 999999/999998", "off spring 3", "off damper 1/999999", "times 1",
        "times 2/3", "times 999999", "turn", "late 1", "late 9", "undo", "redo", "box", "keeps", "runs mass 5",
        "runs damper 1/2", "push 1", "push -1/2 0 3", "push " + " ".join("1" * 12), "push -999999/999998 0 -999999",
        "runs spring 100000/3", "push 5 0 0 0 0 0 0 0 0 0 0 0")
BAD = ("", " ", "turn ", " turn", "Turn", "turn 1", "turns", "undo 1", "redo ", "box 1", "keeps?", "keep", "boxes", "add",
       "add spring", "add 1", "add spring 0", "add spring -1", "add spring 1 1", "add  spring 1", "add Spring 1", "add rod 1",
       "add spring 2/4", "add spring 1/1", "add spring 01", "add spring 1000000", "add spring 1/1000000", "add spring 1.5",
       "add spring +1", "add spring 1/0", "off", "off mass", "off mass 0", "off mass -1/2", "off mass 1000001/2", "add 1 spring",
       "times", "times 0", "times -1", "times 1 1", "times 1000000", "times 1/1000000", "times 2/2", "times x", "times spring 1",
       "late", "late 0", "late 10", "late -1", "late 01", "late 1/2", "late 1 1", "late +1", "late x", "late 1.0", "late 99",
       "runs", "runs mass", "runs mass 0", "runs 1", "runs box 1", "runs mass 1000000", "runs mass 1 1", "push", "push ",
       "push 0", "push 0 1", "push " + " ".join("1" * 13), "push 1,2", "push 1  2", "push 1 2 ", "push 1000000",
       "push 1 1/1000000", "push 1 -1000000", "push 1 2/4", "push 1 -0", "push x", "push 1 1/1", "turn\n", "box\nbox", "\n",
       "keeps\r", "push 1\t2", "1", "do turn", "None", "redo redo", "late \u0661", "push \u00b2", "add damper 1/2/3", "quit")


def some_line(chance):
    word = chance.choice(("add", "add", "off", "times", "turn", "late", "undo", "undo", "redo", "box", "keeps", "runs", "push"))
    amount = str(Fraction(chance.randint(1, 4), chance.randint(1, 3)))
    if word in ("add", "off", "runs"):
        return f"{word} {chance.choice(('spring', 'mass', 'damper'))} {amount}"
    if word == "times":
        return f"times {amount}"
    if word == "late":
        return f"late {chance.randint(1, 3)}"
    if word == "push":
        many = chance.randint(0, 5)
        return " ".join(["push", amount] + [str(Fraction(chance.randint(-3, 3), chance.randint(1, 2))) for _ in range(many)])
    return word


def edit_of(words):
    if words[0] in ("add", "off"):
        return (words[0], (words[1], pair(Fraction(words[2]))))
    if words[0] == "times":
        return ("times", pair(Fraction(words[1])))
    return (words[0], int(words[1])) if words[0] == "late" else (words[0],)


def reply_by_hand(office, line):
    words = line.split(" ")
    try:
        if words[0] in ("add", "off", "times", "turn", "late"):
            office.do(edit_of(words))
            return "done"
        if words[0] in ("undo", "redo"):
            office.undo() if words[0] == "undo" else office.redo()
            return "done"
    except (CanNot, TooMany) as caught:
        return "refused " + type(caught).__name__
    own = office.box_now()
    if words[0] == "box":
        return box_text(own).replace("\n", " | ")
    if words[0] == "keeps":
        return "yes" if office.keeps() else "no"
    if words[0] == "runs":
        part = part_box((words[1], pair(Fraction(words[2]))))
        return "stuck" if is_stuck(own, part) else "yes" if runs_away(own, part) else "no"
    return " ".join(str(x) for x in answers_by_hand(own, row(*words[1:]))[0])


class DeskTests(unittest.TestCase):

    def test_requests(self):
        for line in GOOD:
            self.assertIs(is_request(line), True, line)
        for line in BAD:
            self.assertIs(is_request(line), False, line)
        for wrong in (None, True, 1, b"turn", ("turn",), ["turn"], ()):
            with self.assertRaises(Unfit):
                is_request(wrong)

    def test_bounds_of_six_figures_nine_beats_twelve_pushes(self):
        for top in ("1", "99999", "999999", "1000000", "0999999", "9999999"):
            for bottom in ("", "/17", "/999983", "/1000003", "/0000017"):
                fits = len(top) < 7 and not top.startswith("0") and len(bottom) < 8 and not bottom.startswith("/0")
                for line in (f"add spring {top}{bottom}", f"times {top}{bottom}", f"push {top}{bottom}",
                             f"push 1 -{top}{bottom}", f"runs damper {top}{bottom}"):
                    self.assertIs(is_request(line), fits, line)
        self.assertEqual([k for k in range(-3, 30) if is_request(f"late {k}")], list(range(1, 10)))
        self.assertEqual([k for k in range(20) if is_request(" ".join(["push"] + ["1"] * k))], list(range(1, 13)))

    def test_replies(self):
        chance = random.Random(251)
        seen = {}
        for _ in range(60):
            own = small_box(chance, chance.randint(0, 3)) if chance.random() < 0.5 else keeper(chance)
            lines = [some_line(chance) for _ in range(chance.randint(1, 30))]
            office = Office(own)
            wanted = [reply_by_hand(office, line) for line in lines]
            told = replies(own, "\n".join(lines))
            self.assertEqual(told, wanted)
            self.assertEqual(replies(lists(own), "\n".join(lines)), wanted)
            last = last_office(own, "\n".join(lines))
            self.assertIsInstance(last, Office)
            self.assertEqual(last, office)
            self.assertEqual(last.box_now(), office.box_now())
            # What was undone last can be put back there, too.
            self.assertEqual(reply_by_hand(last, "redo"), reply_by_hand(office, "redo"))
            self.assertEqual(last.box_now(), office.box_now())
            for line, reply in zip(lines, told):
                word = line.split(" ")[0]
                seen.setdefault(word, set()).add(reply if word not in ("box", "push") else "")
        for word, kinds in (("add", {"done", "refused TooMany"}), ("off", {"done", "refused TooMany"}),
                            ("late", {"done", "refused TooMany"}), ("turn", {"done", "refused CanNot"}),
                            ("undo", {"done", "refused CanNot"}), ("redo", {"done", "refused CanNot"}),
                            ("keeps", {"yes", "no"}), ("runs", {"yes", "no", "stuck"})):
            self.assertLessEqual(kinds, seen[word])

    def test_each_reply(self):
        for own, text, wanted in (
                (COIL, "box", ["tops 1 1 | bottoms 1 -1"]), (COIL, "keeps", ["yes"]), (spring(-1), "keeps", ["no"]),
                (COIL, "push 1/2 -1", ["1/2 0"]), (damper(-1), "runs damper 1\nruns spring 2\nruns damper 1/2", ["stuck", "yes", "no"]),
                (COIL, "off spring 1", ["refused CanNot"]), (damper(-1), "add damper 1", ["refused CanNot"]),
                (COIL, "late 4\nlate 9\nlate 3", ["refused TooMany", "refused TooMany", "done"]),
                (COIL, "late 1\nturn", ["done", "refused CanNot"]), (COIL, "undo\nredo", ["refused CanNot"] * 2),
                (COIL, "times 2\nundo\nundo\nredo\nredo\nbox",
                 ["done", "done", "refused CanNot", "done", "refused CanNot", "tops 2 2 | bottoms 1 -1"]),
                # What is refused drops nothing that was undone.
                (COIL, "times 2\nundo\noff spring 1\nlate 9\nkeeps\nbox\npush 1\nruns mass 1\nredo\nbox",
                 ["done", "done", "refused CanNot", "refused TooMany", "yes", "tops 1 1 | bottoms 1 -1", "1", "no", "done",
                  "tops 2 2 | bottoms 1 -1"]),
                (COIL, "turn\nundo\nturn\nredo", ["done", "done", "done", "refused CanNot"]),
                (damper(Fraction(-3, 7)), "push 1 0 -1\nbox", ["-3/7 0 3/7", "tops -3/7 | bottoms 1"])):
            self.assertEqual(replies(own, text), wanted)
            self.assertEqual(replies(box=own, text=text), wanted)
        told = replies(COIL, "box")
        told.append("x")
        self.assertEqual(replies(COIL, "box"), ["tops 1 1 | bottoms 1 -1"])

    def test_lines_that_are_no_requests(self):
        for text, line in (("", 0), ("\n", 0), ("box\n", 1), ("\nbox", 0), ("box\n\nbox", 1), ("box\nlate 0\nx", 1),
                           ("undo\nundo\nadd spring 1\nadd spring", 3), ("box\r\nbox", 0), ("late 9\nlate 99", 1),
                           ("keeps\n keeps", 1)):
            for function in (replies, last_office):
                with self.assertRaises(BadText) as caught:
                    function(COIL, text)
                self.assertEqual(caught.exception.line, line)
                with self.assertRaises(Unfit):
                    function(box([1, 1], [1, 1]), text)
        for bad in BAD:
            if "\n" not in bad:
                with self.assertRaises(BadText) as caught:
                    replies(COIL, f"undo\nlate 9\n{bad}\nx")
                self.assertEqual(caught.exception.line, 2)
        for wrong in (None, 5, True, b"box", ["box"], ("box",)):
            for function in (replies, last_office):
                with self.assertRaises(Unfit):
                    function(COIL, wrong)
                with self.assertRaises(Unfit):
                    function(None, wrong)

    def test_sixty_lines_and_more(self):
        text = "\n".join(["times 2"] * 40 + ["undo"] * 20)
        self.assertEqual(replies(COIL, text), ["done"] * 60)
        self.assertEqual(len(last_office(COIL, text)), 20)
        self.assertEqual(last_office(COIL, text).box_now(), spring(2 ** 20))
        self.assertEqual(replies(COIL, "\n".join(["keeps"] * 70)), ["yes"] * 70)
        self.assertEqual(replies(COIL, "\n".join(["times 2"] * 50)), ["done"] * 50)

    def test_thousands_of_figures(self):
        chance = random.Random(252)
        own = box([Fraction(chance.randint(1, BIG), BIG - k) for k in range(5)],
                  [1] + [Fraction(chance.randint(1, BIG), BIG - 9 - k) for k in range(4)])
        lines = []
        for _ in range(15):
            lines += [f"add damper {Fraction(chance.randint(1, 999999), 999983)}", "turn"]
        lines += ["box", "push " + " ".join(f"{k}/999983" for k in range(1, 13)), "keeps"]
        told = replies(own, "\n".join(lines))
        self.assertEqual(told[:30], ["done"] * 30)
        last = last_office(own, "\n".join(lines))
        self.assertEqual(told[30], box_text(last.box_now()).replace("\n", " | "))
        self.assertEqual(box_in(told[30].replace(" | ", "\n")), last.box_now())
        self.assertGreater(max(len(word) for word in told[31].split(" ")), 5000)
        answers = last.heard(row(*[Fraction(k, 999983) for k in range(1, 13)]))
        self.assertEqual(len(told[31].split(" ")), len(answers))

    def test_boxes_of_many_cells(self):
        own = end_box(from_steps(ONE, row(*["1/3"] * 11)), 0)
        told = replies(own, "keeps\nturn\nruns mass 1\nbox\npush 1 0")
        self.assertEqual(told[:3], ["yes", "refused TooMany", "no"])
        self.assertEqual(box_in(told[3].replace(" | ", "\n")), own)
        self.assertEqual(told[4], "1 2/3")

    def test_arguments_by_name_and_twice(self):
        text = "add damper 1/2\nundo\nbox"
        self.assertIs(is_request(line="box"), True)
        self.assertEqual(last_office(text=text, box=COIL), last_office(COIL, text))
        self.assertEqual(last_office(COIL, text).redo(), ("add", ("damper", HALF)))
        self.assertIsNot(last_office(COIL, text), last_office(COIL, text))
        self.assertEqual(replies(COIL, "times 2\nbox")[1], "tops 2 2 | bottoms 1 -1")
        self.assertEqual(last_office(COIL, "times 2").edits(), [("times", TWO)])


if __name__ == "__main__":
    unittest.main()
