"""KEEPERS and GIVERS of many kinds, made by the parts that they are known to have."""

from fractions import Fraction

from keepcompany.boxes import late, made_small, summed, times, turned
from keepcompany.curves import rim_pair
from keepcompany.errors import CanNot, TooMany

from helpers import ONE, any_box, box, pair, row, value, values


def spring(a):
    return box([Fraction(a), Fraction(a)], [1, -1])


def mass(a):
    return box([Fraction(a), -Fraction(a)], [1, 1])


def damper(a):
    return box([a], [1])


def some_amount(chance):
    return Fraction(chance.randint(1, 5), chance.randint(1, 4))


def loss_free(chance):
    """A LOSS-FREE BOX: springs, masses and rings, turned or not."""
    out = times(rim_pair(pair(Fraction(chance.randint(-4, 4), 5))), pair(some_amount(chance)))
    for made in (spring, mass):
        if chance.random() < 0.5:
            out = summed(out, made(some_amount(chance)))
    return turned(out) if chance.random() < 0.3 else out


def late_with_damper(chance):
    """A damper, and one of at most its size some beats late: its CURVE may touch 0."""
    a = some_amount(chance)
    other = a * chance.choice((1, -1, Fraction(1, 2), Fraction(-1, 3)))
    return summed(damper(a), late(damper(other), chance.randint(1, 3)))


def fading(chance):
    return times(box([1, 0], [1, Fraction(chance.randint(-4, 4), 5)]), pair(some_amount(chance)))


def keeper(chance):
    """A KEEPER of at most 5 cells, by what KEEPERS are made of."""
    out = chance.choice((loss_free, late_with_damper, fading, lambda _: damper(2)))(chance)
    for _ in range(chance.randint(0, 2)):
        more = chance.choice((late_with_damper, fading, lambda _: spring(some_amount(chance)),
                              lambda _: mass(some_amount(chance)), lambda _: damper(some_amount(chance))))(chance)
        try:
            out = summed(out, turned(more) if chance.random() < 0.3 else more)
        except TooMany:
            pass
    return turned(out) if chance.random() < 0.3 else out


def small_box(chance, cells):
    return made_small(any_box(chance, cells))


def less_damper(own, e):
    """own less the damper e, or None if nothing is left."""
    tops = [a - e * b for a, b in zip(values(own[0]), values(own[1]))]
    return (row(*tops), own[1]) if any(tops) else None


# KEEPERS from which no damper can be taken, for one reason each.
KISS = box([3, -4, 2], [1, 0, 0])
BORDERS = [spring(1), mass("1/3"), rim_pair((1, 3)), KISS, box(["1/2", "1/2"], [1, 0]),
           box([1, 0, 0, 1], [1, 0, 0, 0]), box([1, 0, 0, 0, -1], [1, 0, 0, 0, 0]),
           summed(spring(1), box([1, 1], [1, 0])), summed(spring(1), box([1, -1], [1, 0])), summed(KISS, mass(2))]
# KEEPERS from which one can.
INNER = [damper(1), box([1, 0], [1, "1/2"]), box([1, 0], [1, -1]), summed(spring(1), damper("1/1000000000")),
         summed(rim_pair((1, 2)), damper(1)), box([2, 0, 0, 1], [1, 0, 0, 0]),
         summed(KISS, damper("1/100")), summed(summed(spring(1), mass(1)), damper(3))]
# GIVERS that no damper helps: zeros of bottoms outside, double or ill ones on the rim.
LOST = [box([1, 0], [1, -2]), box([0, 2], [1, 2]), spring(-1), mass("-1/2"), box([1, 0, 0], [1, -2, 1]),
        box([1, -1, 0], [1, 0, 1]), times(rim_pair((1, 3)), (-1, 1)),
        summed(spring(1), box([1, 0], [1, 2])), summed(spring(-1), mass(2)), box([1, 2, 3], [1, -5, 6]),
        box([1, 0, 0, 0, 0], [1, 0, 2, 0, 1])]
# GIVERS that a damper helps, and the least one that does.
HELPED = [(damper(-1), Fraction(1)), (box([1, 3], [1, 0]), Fraction(2)), (box([0, 1], [1, 0]), Fraction(1)),
          (box([0, 0, 1], [1, 0, 0]), Fraction(1)), (summed(spring(2), box([0, -3], [1, 0])), Fraction(3)),
          (summed(rim_pair((1, 3)), damper("-5/7")), Fraction(5, 7)), (box([0, 1], [1, -1]), Fraction(1, 2)),
          (summed(damper(-10 ** 9), box([0, 1], [1, 0])), Fraction(10 ** 9 + 1)),
          (box([0, 0, 0, 0, 2], [1, 0, 0, 0, 0]), Fraction(2)), (damper("-1/1000000"), Fraction(1, 10 ** 6))]
