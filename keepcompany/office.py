"""An Office: a SMALL BOX, the EDITS that were done to it, and those undone."""

from keepcompany.alone import one_part
from keepcompany.edits import edited, taken_edit
from keepcompany.errors import CanNot
from keepcompany.keepers import is_keeper
from keepcompany.logs import log_of
from keepcompany.shapes import taken_small


class Office:
    """Holds a SMALL BOX, which EDITS change."""

    def __init__(self, box):
        self.first = taken_small(box)
        self.done = []
        # The BOX at first and behind each EDIT done.
        self.held = [self.first]
        # Pairs of an EDIT undone and of the BOX behind it, the last one undone last.
        self.undone = []

    def __eq__(self, other):
        return isinstance(other, Office) and self.first == other.first and self.done == other.done

    def __len__(self):
        return len(self.done)

    def do(self, edit):
        """Does edit."""
        own = taken_edit(edit)
        found = edited(self.box_now(), own)
        self.done.append(own)
        self.held.append(found)
        self.undone = []

    def undo(self):
        """Takes back the last EDIT, and returns it."""
        if not self.done:
            raise CanNot()
        edit = self.done.pop()
        self.undone.append((edit, self.held.pop()))
        return edit

    def redo(self):
        """Puts back the EDIT undone last, and returns it."""
        if not self.undone:
            raise CanNot()
        edit, box = self.undone.pop()
        self.done.append(edit)
        self.held.append(box)
        return edit

    def edits(self):
        """The list of the EDITS in the line."""
        return list(self.done)

    def twin(self):
        """An Office of its own with the same first BOX and line, nothing undone."""
        other = Office(self.first)
        other.done = list(self.done)
        other.held = list(self.held)
        return other

    def box_now(self):
        """The BOX that it holds."""
        return self.held[-1]

    def keeps(self):
        """Whether that BOX is a KEEPER."""
        return is_keeper(self.box_now())

    def alone(self):
        """A PART with which that BOX runs away."""
        return one_part(self.box_now())

    def heard(self, pushes):
        """The LOG of pushes of that BOX."""
        return log_of(self.box_now(), pushes)
