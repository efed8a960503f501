"""What is a FRACTION, a ROW, a TABLE, and arguments taken as such, else Unfit."""

from math import gcd

from keepcompany.errors import Unfit
from keepcompany.ratios import below


def is_number(thing):
    return isinstance(thing, int) and not isinstance(thing, bool)


def is_fraction(thing):
    if not isinstance(thing, tuple) or len(thing) != 2:
        return False
    top, bottom = thing
    if not is_number(top) or not is_number(bottom):
        return False
    return bottom >= 1 and gcd(top, bottom) == 1


def is_row(thing):
    return isinstance(thing, tuple) and all([is_fraction(own) for own in thing])


def is_row_of(thing, many):
    return is_row(thing) and len(thing) == many


def is_poly(thing):
    return is_row(thing) and (len(thing) == 0 or thing[-1][0] != 0)


def is_table(thing):
    if not isinstance(thing, tuple):
        return False
    many = len(thing)
    if not all([is_row_of(own, many) for own in thing]):
        return False
    return all([thing[i][j] == thing[j][i] for i in range(many) for j in range(i)])


def is_table_of(thing, many):
    return is_table(thing) and len(thing) == many


def tupled(value, deep):
    """value with the lists of its outer deep levels as tuples."""
    if deep > 0 and isinstance(value, (list, tuple)):
        return tuple([tupled(own, deep - 1) for own in value])
    return value


def taken(value, deep, fits):
    """value, lists as tuples down to deep levels, if it fits; else Unfit."""
    copy = tupled(value, deep)
    if not fits(copy):
        raise Unfit()
    return copy


def taken_number(value, low, high):
    """value, a number from low to high; a high of None is no bound."""
    if not is_number(value) or value < low:
        raise Unfit()
    if high is not None and value > high:
        raise Unfit()
    return value


def taken_fraction(value):
    return taken(value, 1, is_fraction)


def taken_between(value, low, high):
    """value, a FRACTION from the one number to the other."""
    kept = taken_fraction(value)
    if below(kept, (low, 1)) or below((high, 1), kept):
        raise Unfit()
    return kept


def taken_from(value, low):
    """value, a FRACTION from the number low."""
    kept = taken_fraction(value)
    if below(kept, (low, 1)):
        raise Unfit()
    return kept


def taken_above(value):
    """value, a FRACTION above 0."""
    kept = taken_fraction(value)
    if kept[0] <= 0:
        raise Unfit()
    return kept


def taken_width(value):
    """value, a FRACTION from 1 / 10 ** 6 to 1."""
    kept = taken_fraction(value)
    if below(kept, (1, 10 ** 6)) or below((1, 1), kept):
        raise Unfit()
    return kept


def taken_row(value):
    return taken(value, 2, is_row)


def taken_row_of(value, many):
    kept = taken_row(value)
    if len(kept) != many:
        raise Unfit()
    return kept


def taken_poly(value):
    return taken(value, 2, is_poly)


def taken_table(value):
    return taken(value, 3, is_table)


def taken_table_of(value, many):
    kept = taken_table(value)
    if len(kept) != many:
        raise Unfit()
    return kept
