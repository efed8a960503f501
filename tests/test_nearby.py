"""Zeros outside of the circle, beside zeros that are known."""

import random
import unittest
from fractions import Fraction

from keepcompany.nearby import zero_near

from helpers import BIG, pair, poly, values


def numbers_of(zeros, lead=1):
    """The whole numbers of a POLY with these zeros (a, b), each not real one with its mirror."""
    p = poly([(-a, 1) if b == 0 else (a * a + b * b, -2 * a, 1) for a, b in zeros], lead)
    bottom = 1
    for own in p:
        bottom *= own[1]
    return [own.numerator for own in [x * bottom for x in values(p)]]


def some_zero(chance):
    many = chance.choice((1, 2, 5, 100))
    a = Fraction(chance.randint(-3 * many, 3 * many), many)
    return a, chance.choice((0, 1, 1)) * Fraction(chance.randint(0, 3 * many), many)


class NearbyTests(unittest.TestCase):

    def judge(self, zeros, width, lead=1):
        across, up = values(zero_near(numbers_of(zeros, lead), pair(width)))
        self.assertGreater(up, 0)
        near = [(a, b) for a, b in zeros if abs(a - across) <= width and abs(b - up) <= width and a * a + b * b > 1]
        self.assertTrue(near, (zeros, width, float(across), float(up)))

    def test_known_zeros(self):
        chance = random.Random(201)
        for _ in range(200):
            zeros = [some_zero(chance) for _ in range(chance.randint(1, 4))]
            if any(a * a + b * b > 1 for a, b in zeros):
                for width in (Fraction(1), Fraction(1, 3), Fraction(1, chance.randint(2, 10 ** 6))):
                    self.judge(zeros, width, chance.choice((1, -1, 7)))

    def test_zeros_on_the_rim_and_within_beside_them(self):
        for width in (Fraction(1), Fraction(1, 10 ** 6)):
            for tiny in (Fraction(1, 7), Fraction(1, 10 ** 9), Fraction(1, BIG)):
                third, fourth = Fraction(3, 5), Fraction(4, 5)
                self.judge([(third, fourth), (third + tiny, fourth)], width)
                self.judge([(third - tiny, fourth), (third, fourth), (third, fourth + tiny)], width)
                self.judge([(1, 0), (1 + tiny, 0), (1 - tiny, 0)], width)
                self.judge([(-1, 0), (-1 - tiny, 0), (0, 1)], width)
                self.judge([(0, 1), (0, 1 + tiny), (tiny, 1 - tiny)], width)
                self.judge([(1 + tiny, 0)], width)
        # A cluster, of which one alone lies outside.
        for tiny in (Fraction(1, 7), Fraction(1, 10 ** 9)):
            self.judge([(1 + tiny, 0)] + [(1 - tiny * k, 0) for k in range(1, 5)], Fraction(1))
            self.judge([(0, 1 + tiny)] + [(0, 1 - tiny * k) for k in range(1, 3)], Fraction(1))

    def test_clusters_far_out(self):
        for width in (Fraction(1), Fraction(1, 100)):
            for apart in (width / 3, width, 3 * width, width / 10 ** 6):
                self.judge([(3 + apart * k, 2) for k in range(4)], width)
                self.judge([(3, 2 + apart * k) for k in range(4)], width)
                self.judge([(3, apart * k) for k in range(4)], width)
                self.judge([(-2 - apart * k, 0) for k in range(5)], width)

    def test_far_and_often(self):
        for far in (10 ** 6, BIG):
            self.judge([(far, 0)], Fraction(1, 10 ** 6))
            self.judge([(far, far), (Fraction(1, far), 0)], Fraction(1, 10 ** 6))
            self.judge([(-far, 1), (Fraction(1, 2), Fraction(1, far))], Fraction(1))
        self.judge([(2, 1)] * 3 + [(0, 0)] * 2, Fraction(1, 10 ** 6))
        self.judge([(-5, 0)] * 4, Fraction(1, 10 ** 6))


if __name__ == "__main__":
    unittest.main()
