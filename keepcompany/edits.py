"""EDITS: what is one, and what it makes of a SMALL BOX."""

from keepcompany.boxes import late, summed, times, turned
from keepcompany.checks import is_fraction, is_number, taken
from keepcompany.errors import TooMany
from keepcompany.joints import box_of, part_shaped
from keepcompany.mixtures import mixed
from keepcompany.shapes import cells_of

MOST_CELLS = 4
WITH_PARTS = ("add", "off")


def edit_shaped(thing):
    """Whether thing is an EDIT."""
    if thing == ("turn",):
        return True
    if not isinstance(thing, tuple) or len(thing) != 2:
        return False
    word, told = thing
    if word in WITH_PARTS:
        return part_shaped(told)
    if word == "times":
        return is_fraction(told) and told[0] > 0
    return word == "late" and is_number(told) and told >= 1


def taken_edit(value):
    return taken(value, 3, edit_shaped)


def changed(box, edit):
    """What edit makes of box, made SMALL."""
    word = edit[0]
    if word == "turn":
        return turned(box)
    if word == "add":
        return summed(box, box_of(edit[1]))
    if word == "off":
        return mixed(box, box_of(edit[1]), (-1, 1))
    return times(box, edit[1]) if word == "times" else late(box, edit[1])


def edited(box, edit):
    """The same; TooMany if it has more than 4 cells."""
    found = changed(box, edit)
    if cells_of(found) > MOST_CELLS:
        raise TooMany()
    return found
