import random
import unittest
from fractions import Fraction
from math import floor

from helpers import Enclosed, Known, look_at_sharing, product, ratio, shown, squares
from rootspan.figures import figures, steps
from rootspan.numbers import Number, fraction, number
from rootspan.ratios import Ratio

MINUS, PLUS = squares(0, 2)
CUBE = Known(0, 1, 2, 3)


# Irrational ones: each with the Number, by the functions and by hand.
def irrational():
    yield PLUS, number([-2, 0, 1], Ratio(0))
    yield MINUS, number([-2, 0, 1], None, Ratio(0))
    yield PLUS, Number([-2, 0, 1], Ratio(-1), Ratio(10 ** 30))
    yield MINUS, Number([-2, 0, 1], Ratio(-3, 2), Ratio(-7, 5))
    yield CUBE, number([-2, 0, 0, 1])
    yield CUBE, number(product([-2, 0, 0, 1], [-5, 1], [0, 1]), Ratio(0), Ratio(4))
    yield Known(0, -1, 2, 3), Number([2, 0, 0, 1], Ratio(-10 ** 20), Ratio(10 ** 20))
    for root in squares(Fraction(1, 2), Fraction(5, 4)) + squares(7, Fraction(1, 3)) + squares(-5, 10 ** 20 + 1):
        yield root, number(root.row(), *((ratio(root.shift), None) if root.way > 0 else (None, ratio(root.shift))))
    small = Known(0, 1, Fraction(1, 10 ** 100), 3)
    yield small, number(small.row())
    yield Known(0, -1, Fraction(1, 10 ** 100), 3), number(Known(0, -1, Fraction(1, 10 ** 100), 3).row())
    # Very near a whole number and near a half, above and below.
    for shift in (3, Fraction(-7, 2), Fraction(5, 4)):
        for way in (1, -1):
            near = Known(shift, way, Fraction(2, 10 ** 90), 3)
            yield near, number(near.row())


def of_fraction(at):
    at = Fraction(at)
    row = [-at.numerator, at.denominator]
    return [
        fraction(ratio(at)), Number(row, ratio(at - 1), ratio(at)), Number(row, ratio(at - Fraction(1, 3)), ratio(at + 10 ** 9)),
        Number(row, ratio(at - Fraction(1, 10 ** 80)), ratio(at + Fraction(1, 7))),
    ]


FRACTIONS = [
    0, 1, -1, 7, -12, Fraction(1, 2), Fraction(-1, 2), Fraction(3, 2), Fraction(-3, 2), Fraction(1, 3), Fraction(-1, 3), Fraction(22, 7), Fraction(-22, 7),
    Fraction(1, 8), Fraction(-5, 8), Fraction(999999, 1000000), Fraction(-1, 10 ** 50), 10 ** 50, Fraction(-10 ** 50, 3), Fraction(1, 10 ** 60 + 1),
]
BOTTOMS = [1, 2, 3, 7, 8, 10, 16, 1000, 10 ** 6, 3 ** 40, 10 ** 30, 10 ** 60 - 1, 10 ** 60]


class Steps(unittest.TestCase):
    def test_of_fractions(self):
        for at in FRACTIONS:
            for one in of_fraction(at):
                for bottom in BOTTOMS + [Fraction(at).denominator]:
                    said = steps(one, bottom)
                    self.assertIs(type(said), int)
                    self.assertEqual(said, floor(Fraction(at) * bottom), (at, bottom))

    # The very step, and just beside it.
    def test_the_very_step(self):
        tiny = Fraction(1, 10 ** 80)
        for bottom in BOTTOMS:
            for many in (-7, -1, 0, 1, 5, 10 ** 20):
                at = Fraction(many, bottom)
                for one in of_fraction(at):
                    self.assertEqual(steps(one, bottom), many)
                if bottom < 10 ** 19:
                    self.assertEqual(steps(fraction(ratio(at - tiny)), bottom), many - 1)
                    self.assertEqual(steps(fraction(ratio(at + tiny)), bottom), many)

    def test_of_irrational_ones(self):
        for root, one in irrational():
            for bottom in BOTTOMS:
                said = steps(one, bottom)
                self.assertIs(type(said), int)
                self.assertTrue(root.within(Fraction(said, bottom), Fraction(said + 1, bottom)), (root.row(), bottom))

    def test_told_ones(self):
        one = number([-2, 0, 1], Ratio(0))
        self.assertEqual([steps(one, bottom) for bottom in (1, 2, 10, 100, 1000)], [1, 2, 14, 141, 1414])
        one = number([-2, 0, 1], None, Ratio(0))
        self.assertEqual([steps(one, bottom) for bottom in (1, 2, 10, 100, 1000)], [-2, -3, -15, -142, -1415])
        self.assertEqual(steps(number([-2, 0, 1], Ratio(0)), 10 ** 60), 1414213562373095048801688724209698078569671875376948073176679)


# By fractions: the nearest, the half away from 0.
def rounded(at, places):
    size = floor(abs(at) * 10 ** places + Fraction(1, 2))
    digits = str(size).rjust(places + 1, "0")
    text = digits if places == 0 else digits[:len(digits) - places] + "." + digits[len(digits) - places:]
    return "-" + text if at < 0 and size else text


class Figures(unittest.TestCase):
    def look(self, one, places, told):
        said = figures(one, places)
        self.assertIs(type(said), str)
        self.assertEqual(said, told)

    def test_told_ones(self):
        one = number([-2, 0, 1], Ratio(0))
        for places, told in ((0, "1"), (1, "1.4"), (2, "1.41"), (3, "1.414"), (4, "1.4142"), (5, "1.41421"), (6, "1.414214"), (40, "1.4142135623730950488016887242096980785697")):
            self.look(one, places, told)
            self.look(number([-2, 0, 1], None, Ratio(0)), places, "-" + told)
        self.look(number([-3, 0, 1], Ratio(0)), 0, "2")
        self.look(number([-3, 0, 1], None, Ratio(0)), 0, "-2")

    def test_left_out(self):
        self.assertEqual(figures(number([-2, 0, 1], Ratio(0))), "1.414214")
        self.assertEqual(figures(fraction(Ratio(-2, 3))), "-0.666667")
        self.assertEqual(figures(fraction(Ratio(0))), "0.000000")
        self.assertEqual(figures(fraction(Ratio(7))), "7.000000")

    def test_of_fractions(self):
        for at in FRACTIONS:
            for one in of_fraction(at):
                for places in (0, 1, 2, 3, 6, 17, 39, 40):
                    self.look(one, places, rounded(Fraction(at), places))

    def test_drawn_fractions(self):
        source = random.Random(37)
        for _ in range(300):
            at = Fraction(source.randrange(-10 ** 6, 10 ** 6), source.choice((1, 2, 4, 5, 8, 16, 20, 64, 100, 125, 640, 999, 7)))
            places = source.randrange(41)
            self.look(fraction(ratio(at)), places, rounded(at, places))

    def test_ties(self):
        for at, places, told in (("1/2", 0, "1"), ("-1/2", 0, "-1"), ("3/2", 0, "2"), ("5/2", 0, "3"), ("-5/2", 0, "-3"), ("-3/2", 0, "-2"), ("1/4", 1, "0.3"), ("-1/4", 1, "-0.3"),
                                 ("1/8", 2, "0.13"), ("-1/8", 2, "-0.13"), ("25/1000", 2, "0.03"), ("1/20", 1, "0.1"), ("-1/20", 1, "-0.1"), ("199/200", 2, "1.00"), ("-199/200", 2, "-1.00")):
            for one in of_fraction(Fraction(at)):
                self.look(one, places, told)
        for places in range(41):
            half = Fraction(1, 2 * 10 ** places)
            told = "1" if places == 0 else "0." + "0" * (places - 1) + "1"
            self.look(fraction(ratio(half)), places, told)
            self.look(fraction(ratio(-half)), places, "-" + told)

    # Just beside the half.
    def test_near_ties(self):
        for places in (0, 1, 6, 40):
            half, tiny = Fraction(1, 2 * 10 ** places), Fraction(2, 10 ** 110)
            for at in (Fraction(0), Fraction(3), Fraction(-4)):
                for way in (1, -1):
                    told = rounded(at + half + way * Fraction(1, 10 ** 100), places)
                    near = Known(at + half, way, tiny, 3)
                    if max(map(abs, near.row())) < 10 ** 120:
                        self.look(number(near.row()), places, told)
                    self.look(fraction(ratio(at + half + way * Fraction(1, 10 ** 70))), places, told)

    def test_no_sign_ahead_of_nought(self):
        for at, places, told in ((0, 0, "0"), (0, 2, "0.00"), ("-1/10", 0, "0"), ("-49/100", 0, "0"), ("-1/1000", 2, "0.00"), ("-4/1000", 2, "0.00"), ("-5/1000", 2, "-0.01"), ("1/1000", 2, "0.00")):
            for one in of_fraction(Fraction(at)):
                self.look(one, places, told)
        small = number(Known(0, -1, Fraction(1, 10 ** 100), 3).row())
        for places in range(33):
            self.look(small, places, "0" if places == 0 else "0." + "0" * places)
        self.look(small, 34, "-0." + "0" * 33 + "5")

    def test_figures_that_carry_over(self):
        for at, places, told in (("999/1000", 1, "1.0"), ("999/1000", 2, "1.00"), ("999/1000", 3, "0.999"), ("-999/1000", 1, "-1.0"), ("9999/1000", 2, "10.00"), ("99/10", 0, "10"), ("-1999/1000", 2, "-2.00"),
                                 ("95/10", 0, "10"), ("99999999/100000000", 6, "1.000000"), ("9/10", 0, "1")):
            for one in of_fraction(Fraction(at)):
                self.look(one, places, told)
        self.look(number([-9999, 0, 100], Ratio(0)), 1, "10.0")
        self.look(number([-9999, 0, 100], None, Ratio(0)), 1, "-10.0")

    def test_great_ones(self):
        self.look(fraction(Ratio(10 ** 119 + 1)), 2, str(10 ** 119 + 1) + ".00")
        self.look(fraction(Ratio(-10 ** 119 - 1)), 0, str(-10 ** 119 - 1))
        self.look(fraction(Ratio(2 * 10 ** 100, 3)), 1, "6" * 100 + ".7")

    def test_of_irrational_ones(self):
        for root, one in irrational():
            near = Enclosed(root.below).root(root.power)
            near = Enclosed(root.shift).plus(near if root.way > 0 else near.opposite())
            for places in (0, 1, 2, 5, 6, 20, 40):
                told = {rounded(near.low, places), rounded(near.high, places)}
                self.assertEqual(len(told), 1)
                self.look(one, places, told.pop())


class NothingIsShared(unittest.TestCase):
    def test_numbers_stay(self):
        for make in (lambda: number([-2, 0, 1], Ratio(0)), lambda: number([2, 0, 0, 1]), lambda: fraction(Ratio(-1, 3)), lambda: Number([-2, 0, 1], Ratio(-1), Ratio(5))):
            look_at_sharing(self, steps, lambda: [make(), 10 ** 20])
            look_at_sharing(self, figures, lambda: [make(), 12])
            look_at_sharing(self, figures, lambda: [make()])

    def test_told_again_after_other_askings(self):
        one = number([-2, 0, 1], Ratio(0))
        kept = shown(one, True)
        first = [figures(one, places) for places in range(41)]
        steps(one, 10 ** 60)
        self.assertEqual([figures(one, places) for places in range(40, -1, -1)], first[::-1])
        self.assertEqual(shown(one, True), kept)


if __name__ == "__main__":
    unittest.main()
