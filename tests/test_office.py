"""Point [24]: an Office, and the EDITS that change its BOX."""

import random
import unittest
from fractions import Fraction

from keepcompany.alone import is_one_part
from keepcompany.boxes import echoes, late, made_small, summed, times, turned
from keepcompany.errors import CanNot, NoPaper, TooMany, Unfit
from keepcompany.keepers import is_keeper
from keepcompany.logs import log_of
from keepcompany.office import Office
from keepcompany.parts import part_box
from keepcompany.takings import taken
from keepcompany.told import end_box, from_steps

from helpers import BIG, HALF, LESS, O, ONE, TWO, box, lists, pair, row, values
from makers import BORDERS, HELPED, INNER, LOST, damper, keeper, mass, small_box, spring

COIL = spring(1)
DAMP = ("add", ("damper", HALF))
NO_EDITS = (None, True, 5, "turn", (), ("turn", ONE), ("turns",), ("Turn",), (True,), ("add",), ("add", None),
            ("add", ("rod", ONE)), ("add", ("spring", O)), ("add", ("spring", LESS)), ("add", ("spring", (2, 2))),
            ("add", "spring", ONE), ("add", ("spring", ONE), 1), ("off", ("mass",)), ("off",), ("times", O), ("times", LESS),
            ("times", 2), ("times", (4, 2)), ("times",), ("times", ("spring", ONE)), ("late", 0), ("late", -1),
            ("late", True), ("late", ONE), ("late",), ("late", 1, 1), ("late", None), ("undo",), ("redo",), ("keeps",),
            (("turn",),), ((),), ("late", (1,)), ("soon", 1), ("", 2), ("add", ONE), ({},), ("box",), ("runs", ("spring", ONE)))


def some_edit(chance):
    word = chance.choice(("add", "add", "off", "times", "turn", "late"))
    if word in ("add", "off"):
        return (word, (chance.choice(("spring", "mass", "damper")), pair(Fraction(chance.randint(1, 3), chance.randint(1, 2)))))
    if word == "times":
        return (word, pair(Fraction(chance.randint(1, 4), chance.randint(1, 3))))
    return (word, chance.randint(1, 2)) if word == "late" else (word,)


def edited(own, edit):
    """What the EDIT makes of own, by the functions that the document names."""
    word = edit[0]
    if word == "add":
        found = summed(own, part_box(edit[1]))
    elif word == "off":
        found = taken(own, edit[1])
    elif word == "times":
        found = times(own, edit[1])
    else:
        found = turned(own) if word == "turn" else late(own, edit[1])
    if len(found[0]) > 5:
        raise TooMany()
    return found


class Shadow:
    """An Office as a test keeps it."""

    def __init__(self, own):
        self.boxes, self.line, self.gone = [own], [], []

    def do(self, edit):
        self.boxes.append(edited(self.boxes[-1], edit))
        self.line.append(edit)
        self.gone = []

    def undo(self):
        if not self.line:
            raise CanNot()
        self.gone.append((self.line.pop(), self.boxes.pop()))
        return self.gone[-1][0]

    def redo(self):
        if not self.gone:
            raise CanNot()
        edit, own = self.gone.pop()
        self.line.append(edit)
        self.boxes.append(own)
        return edit


class OfficeTests(unittest.TestCase):

    def same(self, office, shadow):
        self.assertEqual(office.box_now(), shadow.boxes[-1])
        self.assertEqual(office.edits(), shadow.line)
        self.assertEqual(len(office), len(shadow.line))

    def both(self, office, shadow, action):
        """Does action with both; what it raised, or None."""
        try:
            wanted = action(shadow)
        except (CanNot, TooMany) as caught:
            with self.assertRaises(type(caught)) as told:
                action(office)
            self.assertIs(type(told.exception), type(caught))
            return type(caught)
        found = action(office)
        self.assertEqual(found, wanted)
        return None

    def test_long_lines(self):
        chance = random.Random(241)
        raised = {}
        for _ in range(40):
            own = small_box(chance, chance.randint(0, 3)) if chance.random() < 0.5 else keeper_of_four(chance)
            office, shadow = Office(own), Shadow(own)
            for _ in range(40):
                kind = chance.random()
                edit = some_edit(chance)
                if kind < 0.6:
                    error = self.both(office, shadow, lambda one: one.do(edit))
                    raised[edit[0], error] = raised.get((edit[0], error), 0) + 1
                elif kind < 0.85:
                    error = self.both(office, shadow, lambda one: one.undo())
                    raised["undo", error] = raised.get(("undo", error), 0) + 1
                else:
                    error = self.both(office, shadow, lambda one: one.redo())
                    raised["redo", error] = raised.get(("redo", error), 0) + 1
                self.same(office, shadow)
            self.judge(office)
        for key in (("add", None), ("add", TooMany), ("off", None), ("off", TooMany), ("times", None), ("turn", None),
                    ("turn", CanNot), ("late", None), ("late", TooMany), ("undo", None), ("undo", CanNot), ("redo", None),
                    ("redo", CanNot)):
            self.assertIn(key, raised)

    def judge(self, office):
        own = office.box_now()
        self.assertEqual(made_small(own), own)
        self.assertIs(office.keeps(), is_keeper(own))
        if office.keeps():
            with self.assertRaises(NoPaper):
                office.alone()
        else:
            told = office.alone()
            self.assertIs(is_one_part(own, told), True)
            self.assertEqual(office.alone(), told)
        pushes = row(2, -1, 0, 3)
        self.assertEqual(office.heard(pushes), log_of(own, pushes))
        self.assertEqual(office.heard(lists(pushes)), log_of(own, pushes))
        self.assertEqual(office.heard(pushes=pushes), log_of(own, pushes))

    def test_each_edit(self):
        for edit, wanted in ((DAMP, box(["3/2", "1/2"], [1, -1])), (("off", ("damper", HALF)), box(["1/2", "3/2"], [1, -1])),
                             (("times", (3, 7)), spring("3/7")), (("turn",), mass(1)), (("late", 2), late(COIL, 2)),
                             (("add", ("mass", ONE)), box([2, 0, 2], [1, 0, -1])), (("add", ("spring", ONE)), spring(2)),
                             (("off", ("spring", (3, 1))), spring(-2))):
            for form in (edit, lists(edit), list(edit)):
                office = Office(COIL)
                self.assertIsNone(office.do(form))
                self.assertEqual(office.box_now(), wanted)
                self.assertEqual(office.edits(), [edit])
                self.assertEqual(repr(office.edits()), repr([edit]))
                self.assertEqual(repr(office.undo()), repr(edit))
                self.assertEqual(office.box_now(), COIL)
                self.assertEqual(office.edits(), [])
                self.assertEqual(repr(office.redo()), repr(edit))
                self.assertEqual(office.box_now(), wanted)
        office = Office(box=COIL)
        self.assertIsNone(office.do(edit=DAMP))
        self.assertEqual(len(office), 1)

    def test_what_raises_changes_nothing(self):
        office = Office(COIL)
        office.do(DAMP)
        office.do(("turn",))
        office.undo()
        four = box([1, 0, 0, 0, 2], [1, 0, 0, 0, 3])
        for own, edit, error in ((COIL, ("off", ("spring", ONE)), CanNot), (late(COIL, 1), ("turn",), CanNot),
                                 (damper(-1), ("add", ("damper", ONE)), CanNot), (four, ("late", 1), TooMany),
                                 (four, ("add", ("spring", ONE)), TooMany), (four, ("off", ("mass", ONE)), TooMany),
                                 (COIL, ("late", 4), TooMany), (COIL, ("late", 5), TooMany), (COIL, ("late", BIG), TooMany)):
            held = Office(own)
            held.do(("times", TWO))
            held.undo()
            for _ in range(2):
                with self.assertRaises(error):
                    held.do(edit)
                self.assertEqual((held.box_now(), held.edits(), len(held)), (own, [], 0))
            # What was undone can still be put back.
            self.assertEqual(held.redo(), ("times", TWO))
            self.assertEqual(held.box_now(), times(own, TWO))
            for wrong in NO_EDITS:
                with self.assertRaises(Unfit):
                    held.do(wrong)
                if isinstance(wrong, tuple):
                    with self.assertRaises(Unfit):
                        held.do(lists(wrong))
            self.assertEqual(held.edits(), [("times", TWO)])
        self.assertEqual(office.redo(), ("turn",))
        fine = Office(box([1, 0, 0, 0, 2], [1, 0, 0, 0, 3]))
        fine.do(("turn",))
        self.assertEqual(fine.box_now(), box([1, 0, 0, 0, 3], [1, 0, 0, 0, 2]))

    def test_undo_and_redo_in_a_row(self):
        office = Office(COIL)
        for call in (office.undo, office.redo):
            with self.assertRaises(CanNot):
                call()
        line = [("times", (k + 1, 1)) for k in range(1, 7)]
        boxes = [COIL]
        for edit in line:
            office.do(edit)
            boxes.append(office.box_now())
        for k in range(6, 0, -1):
            self.assertEqual(office.undo(), line[k - 1])
            self.assertEqual(office.box_now(), boxes[k - 1])
        with self.assertRaises(CanNot):
            office.undo()
        for k in range(3):
            self.assertEqual(office.redo(), line[k])
        # Put back, the others stay undone; a new one drops them.
        self.assertEqual(office.redo(), line[3])
        office.undo()
        office.do(("turn",))
        with self.assertRaises(CanNot):
            office.redo()
        self.assertEqual(office.edits(), line[:3] + [("turn",)])
        self.assertEqual(office.undo(), ("turn",))
        self.assertEqual(office.redo(), ("turn",))

    def test_twins(self):
        office = Office(COIL)
        office.do(DAMP)
        office.do(("turn",))
        office.undo()
        other = office.twin()
        self.assertIsInstance(other, Office)
        self.assertEqual(other, office)
        self.assertEqual((other.box_now(), other.edits()), (office.box_now(), [DAMP]))
        with self.assertRaises(CanNot):
            other.redo()
        self.assertEqual(office.redo(), ("turn",))
        self.assertNotEqual(other, office)
        other.do(("late", 1))
        other.undo()
        other.undo()
        self.assertEqual((other.box_now(), other.edits(), office.edits()), (COIL, [], [DAMP, ("turn",)]))
        self.assertEqual(other.redo(), DAMP)
        self.assertEqual(office.undo(), ("turn",))
        self.assertEqual(office, other)

    def test_equality_and_length(self):
        one, other = Office(COIL), Office(lists(COIL))
        self.assertEqual(one, other)
        self.assertFalse(one != other)
        one.do(("times", TWO))
        self.assertFalse(one == other)
        self.assertEqual(len(one), 1)
        # The same BOX now, come to otherwise.
        other.do(("add", ("spring", ONE)))
        self.assertEqual(one.box_now(), other.box_now())
        self.assertNotEqual(one, other)
        self.assertNotEqual(one, Office(spring(2)))
        other.undo()
        other.do(["times", [2, 1]])
        self.assertEqual(one, other)
        one.do(("turn",))
        one.undo()
        self.assertEqual(one, other)
        for thing in (COIL, None, True, 1, "office", [], one.edits(), (COIL, one.edits()), object()):
            self.assertIs(one == thing, False)
            self.assertIs(one != thing, True)
        self.assertEqual(len(Office(COIL)), 0)
        back = Office(COIL)
        back.do(("turn",))
        back.do(("turn",))
        self.assertEqual(back.box_now(), COIL)
        self.assertNotEqual(back, Office(COIL))
        self.assertIs(Office(COIL) == Office(COIL), True)
        self.assertIs(Office(COIL) == Office(spring(2)), False)
        self.assertIs(Office(damper(1)) != Office(damper(2)), True)

    def test_what_is_handed_in_may_change_later(self):
        own, edit, pushes = lists(COIL), ["add", ["damper", [1, 2]]], [[1, 1], [0, 1]]
        office = Office(own)
        office.do(edit)
        own[0][0][0] = 7
        edit[1][1][0] = 9
        edit[0] = "off"
        self.assertEqual(office.edits(), [DAMP])
        self.assertEqual(office.box_now(), box(["3/2", "1/2"], [1, -1]))
        told = office.heard(pushes)
        pushes[0][0] = 5
        self.assertEqual(told, ((ONE, (3, 2)), (O, TWO)))
        line = office.edits()
        line.append(("turn",))
        line[0] = None
        self.assertEqual(office.edits(), [DAMP])
        self.assertIsNot(office.edits(), office.edits())
        office.undo()
        self.assertEqual(office.box_now(), COIL)
        self.assertEqual(own[0][0][0], 7)

    def test_unfit(self):
        for wrong in (None, (), box([1, 1], [1, 1]), ((O,), (ONE,)), 5, "tops 1", ((TWO,), (TWO,)), box([2, 2], [1, 1])):
            with self.assertRaises(Unfit):
                Office(wrong)
        office = Office(COIL)
        for wrong in (None, (), (O,), row(0, 1), (1,), ONE, ((2, 2),), "1", 5, (ONE, None)):
            with self.assertRaises(Unfit):
                office.heard(wrong)
        self.assertEqual(office.heard((ONE,) * 40), log_of(COIL, (ONE,) * 40))

    def test_guarantees(self):
        chance = random.Random(242)
        for own in [keeper_of_four(chance) for _ in range(40)] + [small_box(chance, 2) for _ in range(20)]:
            for edit in [some_edit(chance) for _ in range(8)]:
                office = Office(own)
                kept = office.keeps()
                try:
                    office.do(edit)
                except (CanNot, TooMany):
                    continue
                if edit[0] in ("add", "times", "turn") and kept:
                    self.assertIs(office.keeps(), True)
                if edit[0] == "late":
                    self.assertIs(office.keeps(), False)
                self.judge(office)
                back = {"add": ("off",) + edit[1:], "off": ("add",) + edit[1:], "turn": edit}.get(edit[0])
                if edit[0] == "times":
                    back = ("times", (edit[1][1], edit[1][0]))
                if back is not None:
                    try:
                        office.do(back)
                    except (CanNot, TooMany):
                        continue
                    self.assertEqual(office.box_now(), own)

    def test_givers_and_keepers(self):
        for own in BORDERS + INNER + LOST + [one for one, _ in HELPED]:
            self.judge(Office(own))

    def test_boxes_of_many_cells(self):
        own = end_box(from_steps(ONE, row(*["1/3"] * 11)), 0)
        office = Office(own)
        self.assertIs(office.keeps(), True)
        for edit in (("turn",), ("times", TWO), ("late", 1), ("add", ("damper", ONE)), ("off", ("damper", ONE))):
            with self.assertRaises(TooMany):
                office.do(edit)
        self.assertEqual(len(office), 0)
        self.assertEqual(office.twin(), office)
        self.assertEqual(office.heard((ONE,) + (O,) * 11)[1][1], echoes(own, 2)[1])
        five = Office(box([1, 0, 0, 0, 0, 2], [1, 0, 0, 0, 0, 3]))
        with self.assertRaises(TooMany):
            five.do(("times", TWO))

    def test_great_numbers_and_forty_edits(self):
        office = Office(box([BIG, Fraction(1, BIG), 3], [1, Fraction(-BIG, 7), Fraction(2, BIG)]))
        for k in range(40):
            office.do(("turn",) if k % 2 else ("add", ("damper", pair(Fraction(BIG, BIG - k - 1)))))
        self.assertEqual(len(office), 40)
        office.do(("times", (BIG, 3)))
        self.assertEqual(len(office), 41)
        own = office.box_now()
        self.assertEqual(len(own[0]), 3)
        self.assertEqual(office.heard((ONE,) * 12), log_of(own, (ONE,) * 12))
        for _ in range(41):
            office.undo()
        self.assertEqual(values(office.box_now()[0])[0], BIG)
        with self.assertRaises(CanNot):
            office.undo()


def keeper_of_four(chance):
    """A KEEPER of at most 4 cells."""
    while True:
        own = keeper(chance)
        if len(own[0]) < 6:
            return own


if __name__ == "__main__":
    unittest.main()
