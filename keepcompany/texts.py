"""Texts of FRACTIONS, BOXES, SCRIPTS and LOGS, written and read."""

from keepcompany.checks import taken_fraction
from keepcompany.errors import BadText, Unfit
from keepcompany.figures import (fraction_by, fraction_written, number_by, number_text, part_by,
                                 row_by, row_written)
from keepcompany.joints import part_shaped
from keepcompany.logs import taken_log
from keepcompany.ratios import ZERO
from keepcompany.shapes import small_shaped, taken_small
from keepcompany.told import silent
from keepcompany.whoever import taken_script

MOST_TOPS = 13


def taken_text(value):
    """value, a string; else Unfit."""
    if not isinstance(value, str):
        raise Unfit()
    return value


def found_at(line, found):
    """found, what line number line was read as; BadText if it could not be read."""
    if found is None:
        raise BadText(line)
    return found


def fraction_text(value):
    """The text of the FRACTION value."""
    return fraction_written(taken_fraction(value))


def fraction_in(word):
    """The FRACTION that word is the text of."""
    return found_at(0, fraction_by(taken_text(word)))


def box_lines(box):
    """The lines of the text of box."""
    return ["tops " + row_written(box[0]), "bottoms " + row_written(box[1])]


def box_text(box):
    """The text of box."""
    return "\n".join(box_lines(taken_small(box)))


def named_row(line, name):
    """The ROW behind name in line; None if that is not what line tells."""
    words = line.split(" ")
    return row_by(words[1:]) if words[0] == name else None


def tops_by(line):
    """The tops that line tells; None if it tells none of a BOX."""
    row = named_row(line, "tops")
    if row is None or len(row) > MOST_TOPS or silent(row):
        return None
    return row


def box_by(tops, line):
    """The SMALL BOX of tops and of the bottoms that line tells; None if it tells none."""
    box = (tops, named_row(line, "bottoms"))
    return box if small_shaped(box) else None


def box_in(text):
    """The BOX that text tells."""
    lines = taken_text(text).split("\n")
    tops = found_at(0, tops_by(lines[0]))
    if len(lines) == 1:
        raise BadText(1)
    box = found_at(1, box_by(tops, lines[1]))
    if len(lines) > 2:
        raise BadText(2)
    return box


def script_text(script):
    """The text of script."""
    return "\n".join([" ".join([number_text(beats), kind, fraction_written(amount)])
                      for beats, (kind, amount) in taken_script(script)])


def piece_by(line):
    """The pair of beats and a PART that line tells; None if it tells none."""
    words = line.split(" ")
    beats, part = number_by(words[0]), part_by(words[1:])
    if beats is None or beats < 1 or not part_shaped(part):
        return None
    return beats, part


def script_in(text):
    """The SCRIPT that text tells."""
    kept = taken_text(text)
    if kept == "":
        return ()
    return tuple([found_at(k, piece_by(line)) for k, line in enumerate(kept.split("\n"))])


def log_text(log):
    """The text of log."""
    return "\n".join([row_written(own) for own in taken_log(log)])


def beat_by(line, first):
    """The pair of a push and an answer that line tells; None if it tells none, or 0 as the first push."""
    row = row_by(line.split(" "))
    if row is None or len(row) != 2 or (first and row[0] == ZERO):
        return None
    return row


def log_in(text):
    """The LOG that text tells."""
    lines = taken_text(text).split("\n")
    return tuple([found_at(k, beat_by(line, k == 0)) for k, line in enumerate(lines)])
