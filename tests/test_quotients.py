import random
import unittest
from fractions import Fraction
from math import floor

from helpers import Known, look_at_sharing, product, ratio, shown, squares, whole_root
from rootspan.errors import TooGreat
from rootspan.numbers import Number, fraction, number
from rootspan.quotients import quotients
from rootspan.ratios import Ratio
from rootspan.reckon import inverse, minus, plus

FULL = 10 ** 120 - 1


def of_fraction(at):
    found = []
    at = Fraction(at)
    while True:
        found.append(floor(at))
        if at == found[-1]:
            return found
        at = 1 / (at - found[-1])


# Of a root that is known and no fraction: between two fractions so near that enough quotients are the same.
def of_known(root, many):
    size = 10 ** 100
    while True:
        scaled = root.below * size ** root.power
        low = Fraction(whole_root(floor(scaled), root.power), size)
        ends = [root.shift + root.way * end for end in (low, low + Fraction(1, size))]
        found = []
        for one, other in zip(*[of_fraction(end) for end in ends]):
            if one != other:
                break
            found.append(one)
        if len(found) >= many:
            return found[:many]
        size = size ** 2


class OfFractions(unittest.TestCase):
    def made(self, at):
        row = [-Fraction(at).numerator, Fraction(at).denominator]
        return [fraction(ratio(at)), Number(row, ratio(at - 1), ratio(at)), Number(row, ratio(at - Fraction(1, 3)), ratio(at + 10 ** 9))]

    def look(self, at, told):
        for one in self.made(Fraction(at)):
            for many in range(1, 31):
                said = quotients(one, many)
                self.assertIs(type(said), list)
                self.assertEqual([type(part) for part in said], [int] * len(said))
                self.assertEqual(said, told[:many], (at, many))

    def test_whole_numbers_have_one(self):
        for at in (0, 1, -1, 2, -2, 77, 10 ** 100, -10 ** 100, FULL):
            self.look(at, [at])

    def test_told_ones(self):
        for at, told in (("1/2", [0, 2]), ("-1/2", [-1, 2]), ("7/2", [3, 2]), ("-7/2", [-4, 2]), ("22/7", [3, 7]), ("-22/7", [-4, 1, 6]), ("1/3", [0, 3]), ("2/3", [0, 1, 2]), ("-2/3", [-1, 3]),
                         ("-1/3", [-1, 1, 2]), ("649/200", [3, 4, 12, 4]), ("355/113", [3, 7, 16]), ("13/8", [1, 1, 1, 1, 2]), ("99/100", [0, 1, 99]), ("-99/100", [-1, 100])):
            self.look(Fraction(at), told)

    def test_they_end(self):
        for at in (Fraction(1, FULL), Fraction(-1, FULL), Fraction(FULL, FULL - 1), Fraction(FULL - 1, FULL), Fraction(10 ** 60, 3 ** 120), Fraction(-10 ** 60, 7 ** 70)):
            self.look(at, of_fraction(at))
        one, other = 1, 1
        for _ in range(40):
            one, other = other, one + other
        self.look(Fraction(other, one), of_fraction(Fraction(other, one)))

    def test_drawn_ones(self):
        source = random.Random(38)
        for _ in range(100):
            at = Fraction(source.randrange(-10 ** 9, 10 ** 9), source.randrange(1, 10 ** source.randrange(1, 12)))
            self.assertEqual(quotients(fraction(ratio(at)), 30), of_fraction(at)[:30])
            self.assertEqual(quotients(fraction(ratio(at)), 3), of_fraction(at)[:3])


class OfIrrationalOnes(unittest.TestCase):
    def look(self, one, told):
        for many in (1, 2, 3, 7, 29, 30):
            said = quotients(one, many)
            self.assertIs(type(said), list)
            self.assertEqual([type(part) for part in said], [int] * many)
            self.assertEqual(said, told[:many])

    def of(self, root):
        near = (ratio(root.shift), None) if root.way > 0 else (None, ratio(root.shift))
        return number(root.row(), *near)

    def test_square_roots(self):
        for below, head, tail in ((2, [1], [2]), (3, [1], [1, 2]), (5, [2], [4]), (7, [2], [1, 1, 1, 4]), (13, [3], [1, 1, 1, 1, 6]), (99, [9], [1, 18]), (61, [7], [1, 4, 3, 1, 2, 2, 1, 3, 4, 1, 14])):
            self.look(number([-below, 0, 1], Ratio(0)), (head + tail * 30)[:30])
        self.look(number([-1, -1, 1], Ratio(0)), [1] * 30)
        self.look(number([-1, -1, 1], None, Ratio(0)), [-1, 2] + [1] * 28)
        self.look(number([-2, 0, 1], None, Ratio(0)), [-2, 1, 1] + [2] * 27)
        self.look(number([-1, 0, 2], Ratio(0)), [0, 1] + [2] * 28)

    def test_third_roots(self):
        told = [1, 3, 1, 5, 1, 1, 4, 1, 1, 8, 1, 14, 1, 10, 2, 1, 4, 12, 2, 3, 2, 1, 3, 4, 1, 1, 2, 14, 3, 12]
        self.look(number([-2, 0, 0, 1]), told)
        self.look(number(product([-2, 0, 0, 1], [-5, 1], [0, 1]), Ratio(0), Ratio(3)), told)
        self.look(Number([-2, 0, 0, 1], Ratio(-10 ** 30), Ratio(10 ** 30)), told)
        self.look(inverse(number([-2, 0, 0, 1])), [0] + told)

    def test_beside_nearby_fractions(self):
        roots = squares(Fraction(1, 3), Fraction(7, 5)) + squares(-12, Fraction(1, 10 ** 9)) + squares(0, 10 ** 20 + 39)
        roots += [Known(0, way, below, power) for way in (1, -1) for below, power in ((2, 3), (3, 4), (7, 5), (Fraction(5, 3), 7), (10, 8), (Fraction(1, 10 ** 61), 8), (10 ** 100, 3))]
        for root in roots:
            self.look(self.of(root), of_known(root, 30))

    def test_great_quotients(self):
        for size in (10 ** 20, 10 ** 40 + 3):
            self.look(number([-size * size - 1, 0, 1], Ratio(0)), [size] + [2 * size] * 29)
        size = 10 ** 59
        self.assertEqual(quotients(number([-size * size - 1, 0, 1], Ratio(0)), 12), [size] + [2 * size] * 11)
        # Very near a fraction: the quotient behind its own is great.
        for shift in (Fraction(3), Fraction(-7, 2), Fraction(22, 7)):
            for way in (1, -1):
                root = Known(shift, way, Fraction(2, 10 ** 90), 3)
                self.look(self.of(root), of_known(root, 30))
                self.assertGreater(max(of_known(root, 30)), 10 ** 28)

    def test_never_refused(self):
        great = 10 ** 130 - 1
        one = Number([-great, 0, 1], Ratio(0), Ratio(great))
        self.look(one, of_known(Known(0, 1, great), 30))
        one = Number([-great, 0, 0, 1], Ratio(-1), Ratio(great))
        self.look(one, of_known(Known(0, 1, great, 3), 30))
        root = Known(0, 1, Fraction(FULL, FULL - 1), 8)
        self.look(number(root.row(), Ratio(0)), of_known(root, 30))
        # An inverse of a rest is refused where the rests are reckoned as Numbers.
        root = Known(0, 1, Fraction(10 ** 110 + 1, 3), 5)
        told = of_known(root, 30)
        rest = number(root.row())
        with self.assertRaises(TooGreat):
            for part in told:
                rest = inverse(minus(rest, fraction(Ratio(part))))
        self.look(number(root.row()), told)
        self.assertEqual(quotients(Number([-great, 7], Ratio(0), Ratio(great)), 30), of_fraction(Fraction(great, 7)))

    def test_of_what_was_reckoned(self):
        two, three = number([-2, 0, 1], Ratio(0)), number([-3, 0, 1], Ratio(0))
        self.look(plus(two, three), self.of_the_sum())

    def of_the_sum(self):
        size = 10 ** 200
        low = Fraction(whole_root(2 * size * size, 2) + whole_root(3 * size * size, 2), size)
        first, second = of_fraction(low), of_fraction(low + Fraction(2, size))
        self.assertEqual(first[:30], second[:30])
        return first[:30]


class NothingIsShared(unittest.TestCase):
    def test_lists_and_numbers(self):
        for make in (lambda: number([-2, 0, 1], Ratio(0)), lambda: number([-2, 0, 0, 1]), lambda: fraction(Ratio(22, 7)), lambda: fraction(Ratio(0))):
            look_at_sharing(self, quotients, lambda: [make(), 9])
        one = number([-2, 0, 0, 1])
        kept = shown(one, True)
        first = quotients(one, 30)
        first.clear()
        self.assertEqual(len(quotients(one, 30)), 30)
        self.assertEqual(shown(one, True), kept)


if __name__ == "__main__":
    unittest.main()
