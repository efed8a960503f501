"""Points a + b i by Fractions, an oracle for what is told at them."""

from fractions import Fraction

from helpers import value, values


class Point:
    """a + b i."""

    def __init__(self, a, b):
        self.a, self.b = Fraction(a), Fraction(b)

    def __eq__(self, other):
        return isinstance(other, Point) and (self.a, self.b) == (other.a, other.b)

    def __repr__(self):
        return f"Point({self.a}, {self.b})"

    def plus(self, x):
        return Point(self.a + x, self.b)

    def add(self, other):
        return Point(self.a + other.a, self.b + other.b)

    def times(self, x):
        return Point(self.a * x, self.b * x)

    def by(self, other):
        return Point(self.a * other.a - self.b * other.b, self.a * other.b + self.b * other.a)

    def over(self, other):
        size = other.a ** 2 + other.b ** 2
        return Point((self.a * other.a + self.b * other.b) / size, (self.b * other.a - self.a * other.b) / size)


def point_of(told):
    return Point(value(told[0]), value(told[1]))


def powers_at(falling, z):
    """What falling, highest power first, comes to at z."""
    out = Point(0, 0)
    for own in falling:
        out = out.by(z).plus(own)
    return out


def tone_by_hand(own, z):
    under = powers_at(values(own[1]), z)
    return None if under == Point(0, 0) else powers_at(values(own[0]), z).over(under)


def is_pair_by_hand(own, four):
    """Whether four is a PAIR: 0 at the point with springs and masses added, not STUCK."""
    p, q, a, b = values(four)
    if p < 0 or q < 0 or (p, q) == (0, 0) or b < 0 or a * a + b * b <= 1:
        return False
    if 1 + value(own[0][0]) * (p + q) == 0:
        return False
    z = Point(a, b)
    up, down = z.plus(1), z.plus(-1)
    tops, bottoms = powers_at(values(own[0]), z), powers_at(values(own[1]), z)
    # Both ends are no zeros: the size of z is above 1.
    held = up.over(down).times(p).add(down.over(up).times(q))
    return bottoms.add(tops.by(held)) == Point(0, 0)
