import random
import unittest
from fractions import Fraction

from helpers import Enclosed, Known, NumberCase, line, look_at_sharing, plain_of, product, ratio, shown, sign, squares
from rootspan.errors import BelowNought, ByNought, TooGreat, TooHigh
from rootspan.numbers import Number, compare, fraction, number, roots
from rootspan.ratios import Ratio
from rootspan.reckon import inverse, minus, opposite, over, plus, power, root, times

FULL = 10 ** 120 - 1
CUBE = Known(0, 1, 2, 3)
# Twice its square has 120 figures, eight times its square 121.
WIDE = 7 * 10 ** 59


# p + q times the square root of below, which is a whole number and no square; p and q are fractions.
class Square:
    def __init__(self, p, q, below):
        self.p, self.q, self.below = Fraction(p), Fraction(q), below

    def norm(self):
        return self.p ** 2 - self.q ** 2 * self.below

    def known(self):
        return Known(self.p, sign(self.q), self.q ** 2 * self.below)

    def row(self):
        if self.q == 0:
            return line(self.p)
        size = (self.norm().denominator * self.p.denominator)
        return plain_of([int(c * size) for c in (self.norm(), -2 * self.p, 1)])

    def plus(self, other):
        return Square(self.p + other.p, self.q + other.q, self.below)

    def opposite(self):
        return Square(-self.p, -self.q, self.below)

    def minus(self, other):
        return self.plus(other.opposite())

    def times(self, other):
        rest = self.q * other.q * self.below
        return Square(self.p * other.p + rest, self.p * other.q + self.q * other.p, self.below)

    def inverse(self):
        return Square(self.p / self.norm(), -self.q / self.norm(), self.below)

    def over(self, other):
        return self.times(other.inverse())

    def power(self, k):
        found = Square(1, 0, self.below)
        for _ in range(k):
            found = found.times(self)
        return found

    # By the functions and by hand: with the worth within a span, and, of a fraction, at its high.
    def made(self):
        if self.q == 0:
            low, high = self.p - 3, self.p + Fraction(1, 7)
            return [fraction(ratio(self.p)), Number(self.row(), ratio(low), ratio(high)), Number(self.row(), ratio(low), ratio(self.p))]
        reach = abs(self.q) * 1000
        ends = (self.p, self.p + reach) if self.q > 0 else (self.p - reach, self.p)
        return [number(self.row(), ratio(ends[0]), ratio(ends[1])), Number(self.row(), ratio(ends[0]), ratio(ends[1]))]


def drawn(source, below):
    p, q = [Fraction(source.randrange(-12, 13), source.randrange(1, 7)) for _ in range(2)]
    return Square(p, source.choice((0, q, q, q)), below)


def cube(below=2):
    return number([-below, 0, 0, 1])


def square(below):
    return number([-below, 0, 1], Ratio(0) if below > 0 else None)


def whole(value):
    return fraction(Ratio(value))


# Of the degree told, around 1.1 or below -1.1, no root of a polynomial of a lower degree.
def high(degree, way=1):
    ends = (Ratio(0), None) if way > 0 else (None, Ratio(0))
    return number([-2 if way > 0 or degree % 2 == 0 else 2] + [0] * (degree - 1) + [1], *ends)


FRACTIONS = [0, 1, -1, 5, -7, Fraction(1, 2), Fraction(-3, 2), Fraction(22, 7), Fraction(-1, 10 ** 40), 10 ** 40]


class Opposite(NumberCase):
    def test_fractions(self):
        for at in FRACTIONS:
            for one in Square(at, 0, 2).made():
                self.look(opposite(one), line(-Fraction(at)), Known(-Fraction(at)))

    def test_of_degree_two(self):
        for p, q in ((0, 1), (0, -1), (3, 1), (3, -1), (-3, 1), (Fraction(1, 2), Fraction(-1, 2)), (1, 1), (-2, Fraction(1, 5))):
            told = Square(p, q, 5)
            for one in told.made():
                self.look(opposite(one), told.opposite().row(), told.opposite().known())

    def test_the_poly_just_as_told(self):
        self.look(opposite(cube()), [2, 0, 0, 1], Known(0, -1, 2, 3))
        self.look(opposite(number([2, 0, 0, 1])), [-2, 0, 0, 1], CUBE)
        self.look(opposite(number([-2, 0, 0, 0, 1], Ratio(0))), [-2, 0, 0, 0, 1], Known(0, -1, 2, 4))
        self.assertEqual(opposite(number([-1, -1, 0, 1])).poly, [1, -1, 0, 1])
        self.assertEqual(opposite(number([-5, 7, 3, 2])).poly, [5, 7, -3, 2])
        self.assertEqual(opposite(number([-40, 0, 0, 0, 0, 0, 0, 1, 1], Ratio(0))).poly, [-40, 0, 0, 0, 0, 0, 0, -1, 1])
        # A poly that has other factors keeps them.
        row = product([0, 1], [-2, 0, 0, 1], [-5, 1])
        self.look(opposite(number(row, Ratio(0), Ratio(2))), product([0, 1], [2, 0, 0, 1], [5, 1]), Known(0, -1, 2, 3))
        self.look(opposite(number(row, Ratio(1), Ratio(2))), product([0, 1], [2, 0, 0, 1], [5, 1]), Known(0, -1, 2, 3))

    # Other roots lie close on both sides of the span.
    def test_between_other_roots(self):
        rows = [[-below, 0, 0, 1] for below in (2, 3, 4)]
        said = opposite(Number(product(*rows[:2]), Ratio(13, 10), Ratio(3, 2)))
        self.look(said, product([2, 0, 0, 1], [3, 0, 0, 1]), Known(0, -1, 3, 3))
        said = opposite(Number(product(*rows[1:]), Ratio(13, 10), Ratio(3, 2)))
        self.look(said, product([3, 0, 0, 1], [4, 0, 0, 1]), Known(0, -1, 3, 3))
        said = inverse(Number(product(*rows[:2]), Ratio(13, 10), Ratio(3, 2)))
        self.look(said, product([-1, 0, 0, 2], [-1, 0, 0, 3]), Known(0, 1, Fraction(1, 3), 3))
        said = inverse(Number(product(*rows[1:]), Ratio(13, 10), Ratio(3, 2)))
        self.look(said, product([-1, 0, 0, 4], [-1, 0, 0, 3]), Known(0, 1, Fraction(1, 3), 3))

    def test_great_ones_are_not_refused(self):
        great = 10 ** 130 - 1
        self.look(opposite(Number([great, 7], Ratio(-great), Ratio(0))), [-great, 7], Known(Fraction(great, 7)))
        one = Number([-great, 0, 0, 1], Ratio(0), Ratio(10 ** 60))
        self.look(opposite(one), [great, 0, 0, 1], Known(0, -1, great, 3))

    def test_twice_is_alike(self):
        for one in (cube(), whole(0), whole(-3), square(7), number([-1, -1, 0, 1]), high(8), high(8, -1)):
            again = opposite(opposite(one))
            self.assertEqual((again.poly, compare(again, one)), (one.poly, 0))


class Inverse(NumberCase):
    def test_fractions(self):
        for at in FRACTIONS[1:]:
            for one in Square(at, 0, 2).made():
                self.look(inverse(one), line(1 / Fraction(at)), Known(1 / Fraction(at)))

    def test_of_degree_two(self):
        for p, q in ((0, 1), (0, -1), (3, 1), (3, -1), (-3, 1), (-2, 1), (2, -1), (Fraction(1, 2), Fraction(-1, 2)), (1, 1), (-2, Fraction(1, 5))):
            told = Square(p, q, 5)
            for one in told.made():
                self.look(inverse(one), told.inverse().row(), told.inverse().known())

    def test_the_poly_just_as_told(self):
        half = Known(0, 1, Fraction(1, 2), 3)
        self.look(inverse(cube()), [-1, 0, 0, 2], half)
        self.look(inverse(number([2, 0, 0, 1])), [1, 0, 0, 2], Known(0, -1, Fraction(1, 2), 3))
        self.assertEqual(inverse(number([-1, -1, 0, 1])).poly, [-1, 0, 1, 1])
        self.assertEqual(inverse(number([-5, 7, 3, 2])).poly, [-2, -3, -7, 5])
        # Where the poly has the root 0 too, the degree is less by one.
        row = product([0, 1], [-2, 0, 0, 1], [-5, 1])
        told = product([-1, 0, 0, 2], [-1, 5])
        self.look(inverse(number(row, Ratio(0), Ratio(2))), told, half)
        self.look(inverse(number(row, Ratio(1), Ratio(4))), told, half)

    def test_of_nought(self):
        self.refused(ByNought, inverse, whole(0))
        for low, end in ((-1, 0), (-1, 1), (Fraction(-1, 10 ** 30), 0), (-10 ** 30, Fraction(1, 10 ** 30))):
            self.refused(ByNought, inverse, Number([0, 1], ratio(low), ratio(end)))
        self.refused(ByNought, inverse, minus(square(2), square(2)))
        self.refused(ByNought, inverse, number([0, -2, 0, 1], Ratio(-1), Ratio(1)))
        self.refused(ByNought, inverse, roots([0, 0, -1, 0, 1])[1])

    def test_nought_in_the_span_of_another_number(self):
        half = Known(0, 1, Fraction(1, 2), 3)
        for low, end in ((-5, 5), (-1, 2), (-10 ** 40, 10 ** 40), (Fraction(-1, 10 ** 40), 2), (0, 2), (0, 10 ** 40)):
            self.look(inverse(Number([-2, 0, 0, 1], ratio(low), ratio(end))), [-1, 0, 0, 2], half)
            self.look(inverse(Number([2, 0, 0, 1], ratio(-end), ratio(-low))), [1, 0, 0, 2], Known(0, -1, Fraction(1, 2), 3))
        near = Fraction(1, 10 ** 60)
        for way in (1, -1):
            small = Known(0, way, 2 * near, 3)
            told = Known(0, way, 1 / (2 * near), 3)
            self.look(inverse(Number(small.row(), Ratio(-3), Ratio(5))), told.row(), told)
        for low, end in ((-1, 1), (0, 3), (Fraction(-7, 2), Fraction(1, 2))):
            self.look(inverse(Number([-1, 2], ratio(low), ratio(end))), [-2, 1], Known(2))
            if low != 0:
                self.look(inverse(Number([1, 2], ratio(-end), ratio(-low))), [2, 1], Known(-2))

    def test_a_span_that_ends_at_nought(self):
        below, above = squares(0, Fraction(1, 2))
        self.look(inverse(Number([-2, 0, 1], Ratio(-2), Ratio(0))), [-1, 0, 2], below)
        self.look(inverse(Number([-2, 0, 1], Ratio(0), Ratio(2))), [-1, 0, 2], above)
        self.look(inverse(Number([1, 2], Ratio(-1), Ratio(0))), [2, 1], Known(-2))
        self.look(inverse(Number([1, 2], Ratio(-1), Ratio(-1, 2))), [2, 1], Known(-2))

    def test_great_ones_are_not_refused(self):
        great = 10 ** 130 - 1
        self.look(inverse(Number([-great, 7], Ratio(0), Ratio(great))), [-7, great], Known(Fraction(7, great)))
        one = Number([-great, 0, 0, 1], Ratio(-1), Ratio(10 ** 60))
        self.look(inverse(one), [-1, 0, 0, great], Known(0, 1, Fraction(1, great), 3))

    def test_twice_is_alike(self):
        for one in (cube(), whole(-3), square(7), number([-1, -1, 0, 1]), high(8), high(8, -1)):
            again = inverse(inverse(one))
            self.assertEqual((again.poly, compare(again, one)), (one.poly, 0))


CALLS = ((plus, Square.plus), (minus, Square.minus), (times, Square.times), (over, Square.over))


class OfOneSquareRoot(NumberCase):
    def look_at_all(self, first, second):
        for call, way in CALLS:
            for one in first.made():
                for other in second.made():
                    if call == over and second.p == 0 and second.q == 0:
                        self.refused(ByNought, over, one, other)
                    else:
                        told = way(first, second)
                        self.look(call(one, other), told.row(), told.known())

    def test_fractions(self):
        ends = [0, 1, -1, 4, Fraction(1, 2), Fraction(-3, 2), Fraction(-22, 7), Fraction(1, 10 ** 30), -10 ** 30]
        for one in ends:
            for other in ends:
                self.look_at_all(Square(one, 0, 2), Square(other, 0, 2))

    def test_drawn_ones(self):
        source = random.Random(28)
        for _ in range(60):
            below = source.choice((2, 3, 5, 12, 7))
            self.look_at_all(drawn(source, below), drawn(source, below))

    def test_a_number_and_itself_its_opposite_its_inverse(self):
        for told in (Square(0, 1, 2), Square(1, 1, 5), Square(Fraction(1, 2), Fraction(-3, 2), 5), Square(-3, Fraction(1, 9), 7), Square(4, 0, 2)):
            for one in told.made():
                self.look(plus(one, one), told.plus(told).row(), told.plus(told).known())
                self.look(times(one, one), told.times(told).row(), told.times(told).known())
                self.look(plus(one, opposite(one)), [0, 1], Known(0))
                self.look(minus(one, one), [0, 1], Known(0))
                self.look(times(one, inverse(one)), [-1, 1], Known(1))
                self.look(over(one, one), [-1, 1], Known(1))
                self.look(minus(one, opposite(one)), told.plus(told).row(), told.plus(told).known())
                self.look(over(one, inverse(one)), told.times(told).row(), told.times(told).known())

    # The two roots of one poly: the sums' S is not without squares ahead of that.
    def test_conjugates(self):
        low, top = roots([-1, -1, 1])
        self.look(plus(low, top), [-1, 1], Known(1))
        self.look(times(low, top), [1, 1], Known(-1))
        self.look(minus(top, low), [-5, 0, 1], squares(0, 5)[1])
        self.look(minus(low, top), [-5, 0, 1], squares(0, 5)[0])
        self.look(over(top, low), [1, 3, 1], squares(Fraction(-3, 2), Fraction(5, 4))[0])

    def test_one_after_the_other(self):
        source = random.Random(281)
        for below in (2, 5):
            told = Square(1, 1, below)
            said = told.made()[0]
            for _ in range(40):
                step = Square(source.randrange(-2, 3), source.choice((-1, 1)), below)
                call, way = source.choice(CALLS[:3])
                told, said = way(told, step), call(said, step.made()[0])
                if abs(told.p) > 10 ** 20:
                    told, said = Square(1, 1, below), Square(1, 1, below).made()[0]
                self.look(said, told.row(), told.known())

    def test_sums_of_sums_and_products_of_products(self):
        told = [Square(Fraction(k, 3), 1 - k, 3) for k in range(8)]
        said = [one.made()[0] for one in told]
        while len(told) > 1:
            told = [told[k].plus(told[k + 1]) for k in range(0, len(told), 2)]
            said = [plus(said[k], said[k + 1]) for k in range(0, len(said), 2)]
        self.look(said[0], told[0].row(), told[0].known())
        told = [Square(k - 4, 1, 3) for k in range(8)]
        said = [one.made()[0] for one in told]
        while len(told) > 1:
            told = [told[k].times(told[k + 1]) for k in range(0, len(told), 2)]
            said = [times(said[k], said[k + 1]) for k in range(0, len(said), 2)]
        self.look(said[0], told[0].row(), told[0].known())


class OfSeveralRoots(NumberCase):
    def near(self, below, k=2):
        return Enclosed(below).root(k)

    # (p + q sqrt(a)) + (r + s sqrt(b)), by its four conjugates.
    def test_sums_of_two_square_roots(self):
        source = random.Random(29)
        for _ in range(25):
            a, b = source.choice(((2, 3), (2, 5), (3, 5), (7, 2), (6, 5)))
            first, second = [Square(source.randrange(-9, 10), source.choice((-2, -1, 1, 3)), below) for below in (a, b)]
            for call, way in ((plus, 1), (minus, -1)):
                shift = line(first.p + way * second.p)
                inner = product(shift, shift)
                inner[0] -= int(first.q ** 2 * a + second.q ** 2 * b)
                row = product(inner, inner)
                row[0] -= int(4 * first.q ** 2 * second.q ** 2 * a * b)
                near = [Enclosed(one.p).plus(Enclosed(one.q).times(self.near(one.below))) for one in (first, second)]
                told = near[0].plus(near[1]) if way == 1 else near[0].minus(near[1])
                self.look(call(first.made()[0], second.made()[1]), row, told)

    def test_products_of_two_square_roots(self):
        for a, b in ((2, 3), (2, 8), (5, 3), (3, 12), (6, 10), (2, 50)):
            for way in (1, -1):
                one, other = square(a), square(b) if way == 1 else opposite(square(b))
                found = round((a * b) ** 0.5)
                exact = found * found == a * b
                told = (line(way * found), Known(way * found)) if exact else ([-a * b, 0, 1], Known(0, way, a * b))
                self.look(times(one, other), *told)
                quotient = Fraction(a, b)
                if exact:
                    self.look(over(one, other), line(way * Fraction(found, b)), Known(way * Fraction(found, b)))
                else:
                    self.look(over(one, other), Known(0, way, quotient).row(), Known(0, way, quotient))

    def test_the_poly_is_the_least_one(self):
        # S is x(x^2 - 8) of the sum and x^2 - 4 of the product.
        self.look(plus(square(2), square(2)), [-8, 0, 1], Known(0, 1, 8))
        self.look(times(square(2), square(2)), [-2, 1], Known(2))
        # sqrt(2) + sqrt(3) less sqrt(3) is sqrt(2): the poly of degree 8 falls to two.
        both = plus(square(2), square(3))
        self.look(minus(both, square(3)), [-2, 0, 1], Known(0, 1, 2))
        self.look(minus(both, square(2)), [-3, 0, 1], Known(0, 1, 3))
# (sqrt(2) + sqrt(3)) / sqrt(2) is 1 + sqrt(3/2).
        self.look(over(both, square(2)), [-1, -4, 2], Known(1, 1, Fraction(3, 2)))

    def test_three_square_roots(self):
        said = plus(plus(square(2), square(3)), square(5))
        near = self.near(2).plus(self.near(3)).plus(self.near(5))
        row = [576, 0, -960, 0, 352, 0, -40, 0, 1]
        self.look(said, row, near)
        self.look(plus(square(2), plus(square(3), square(5))), row, near)
        self.look(opposite(said), row, near.opposite())
        self.look(times(times(square(2), square(3)), square(5)), [-30, 0, 1], Known(0, 1, 30))
        self.look(times(square(2), times(square(3), square(5))), [-30, 0, 1], Known(0, 1, 30))

    def test_square_and_cube_roots(self):
        two, three = self.near(2), self.near(2, 3)
        self.look(plus(square(2), cube()), [-4, -24, 12, -4, -6, 0, 1], two.plus(three))
        self.look(minus(cube(), square(2)), [-4, -24, 12, -4, -6, 0, 1], three.minus(two))
        self.look(minus(square(2), cube()), [-4, 24, 12, 4, -6, 0, 1], two.minus(three))
        self.look(times(square(2), cube()), [-32, 0, 0, 0, 0, 0, 1], Known(0, 1, 32, 6))
        self.look(times(cube(), opposite(square(2))), [-32, 0, 0, 0, 0, 0, 1], Known(0, -1, 32, 6))
        self.look(over(square(2), cube()), [-2, 0, 0, 0, 0, 0, 1], Known(0, 1, 2, 6))
        self.look(over(cube(), square(2)), [-1, 0, 0, 0, 0, 0, 2], Known(0, 1, Fraction(1, 2), 6))

    def test_with_fractions(self):
        half = fraction(Ratio(1, 2))
        for call, told in ((plus, Known(Fraction(1, 2), 1, 2, 3)), (times, Known(0, 1, Fraction(1, 4), 3))):
            self.look(call(cube(), half), told.row(), told)
            self.look(call(half, cube()), told.row(), told)
        self.look(minus(cube(), half), Known(Fraction(-1, 2), 1, 2, 3).row(), Known(Fraction(-1, 2), 1, 2, 3))
        self.look(minus(half, cube()), Known(Fraction(1, 2), -1, 2, 3).row(), Known(Fraction(1, 2), -1, 2, 3))
        self.look(over(cube(), half), [-16, 0, 0, 1], Known(0, 1, 16, 3))
        self.look(over(half, cube()), [-1, 0, 0, 16], Known(0, 1, Fraction(1, 16), 3))
        self.look(plus(high(8), whole(1)), Known(1, 1, 2, 8).row(), Known(1, 1, 2, 8))
        self.look(times(whole(-1), high(8)), [-2] + [0] * 7 + [1], Known(0, -1, 2, 8))
        self.look(plus(cube(), whole(0)), [-2, 0, 0, 1], CUBE)
        self.look(times(cube(), whole(1)), [-2, 0, 0, 1], CUBE)

    def test_by_nought(self):
        for one in (whole(0), whole(5), fraction(Ratio(-2, 3)), square(2), opposite(square(3)), cube(), high(8), high(7, -1)):
            self.look(times(one, whole(0)), [0, 1], Known(0))
            self.look(times(whole(0), one), [0, 1], Known(0))
            if one.poly != [0, 1]:
                self.look(over(whole(0), one), [0, 1], Known(0))
            self.refused(ByNought, over, one, whole(0))

    # The polys have more factors than the numbers need, and those stay: the least looks for degrees one and two alone.
    def test_polys_with_other_factors(self):
        one = number(product([-2, 0, 0, 1], [-5, 1]), Ratio(0), Ratio(2))
        self.look(plus(one, whole(1)), product(Known(1, 1, 2, 3).row(), [-6, 1]), Known(1, 1, 2, 3))
        self.look(times(one, whole(-1)), product([2, 0, 0, 1], [5, 1]), Known(0, -1, 2, 3))
        told = product(Known(0, 1, 32, 6).row(), [-50, 0, 1])
        self.look(times(one, square(2)), told, Known(0, 1, 32, 6))
        self.look(times(one, whole(0)), [0, 1], Known(0))

    def test_very_near_ones(self):
        near = Fraction(1, 10 ** 20)
        one, other = number(Known(0, 1, 2 + near).row(), Ratio(0)), square(2)
        told = Enclosed(2 + near).root(2).minus(Enclosed(2).root(2))
        said = minus(one, other)
        self.look(said, said.poly, told)
        self.assertEqual(len(said.poly), 5)
        self.look(times(said, whole(0)), [0, 1], Known(0))
        product_told = told.times(Enclosed(3))
        self.look(times(said, whole(3)), times(said, whole(3)).poly, product_told)


class Refused(NumberCase):
    def too_high(self, told, call, *given):
        found = self.refused(TooHigh, call, *given).degree
        self.assertEqual(found, told)
        self.assertIs(type(found), int)

    def test_too_high(self):
        for j in range(1, 9):
            for k in range(1, 9):
                if j * k > 8:
                    for call in (plus, minus, times, over):
                        self.too_high(j * k, call, high(j), high(k, -1))
        for call in (plus, minus, times, over):
            self.too_high(9, call, cube(), cube())
            self.too_high(9, call, cube(), cube(3))

    def test_by_the_degree_of_the_inverse(self):
        one = number([0, -2, 0, 0, 0, 1], Ratio(0))
        self.assertEqual(len(one.poly), 6)
        self.look(over(square(3), one), [-9, 0, 0, 0, 2], Known(0, 1, Fraction(9, 2), 4))
        for call in (plus, minus, times):
            self.too_high(10, call, square(3), one)
        self.too_high(10, over, one, square(3))
        self.too_high(12, over, cube(), one)

    def test_too_high_ahead_of_too_great(self):
        great = [Number([-10 ** 129 - 7, 0, 0, 1], Ratio(0), Ratio(10 ** 50)), Number([-1, 0, 0, 10 ** 129 + 7], Ratio(-1), Ratio(1))]
        for one in great:
            for call in (plus, minus, times, over):
                self.too_high(9, call, one, one)
                self.too_high(9, call, one, cube())
                self.too_high(9, call, cube(), one)
                self.refused(TooGreat, call, one, square(2))
                self.refused(TooGreat, call, square(2), one)
                self.refused(TooGreat, call, one, whole(1))

    def test_by_nought_ahead_of_both(self):
        great = Number([-10 ** 129 - 7, 0, 0, 1], Ratio(0), Ratio(10 ** 50))
        nought = Number([0, 1], Ratio(-1), Ratio(1))
        for one in (great, Number([-10 ** 129 - 7, 1], Ratio(0), Ratio(10 ** 130)), high(8), whole(FULL)):
            self.refused(ByNought, over, one, nought)
            self.refused(ByNought, over, one, whole(0))

    def test_the_greatest_and_one_more(self):
        one = whole(FULL)
        self.look(plus(one, whole(0)), [-FULL, 1], Known(FULL))
        self.refused(TooGreat, plus, one, whole(1))
        self.look(plus(one, whole(-1)), [1 - FULL, 1], Known(FULL - 1))
        self.refused(TooGreat, minus, opposite(one), whole(1))
        self.look(minus(opposite(one), whole(-1)), [FULL - 1, 1], Known(1 - FULL))
        self.look(times(one, whole(-1)), [FULL, 1], Known(-FULL))
        self.refused(TooGreat, times, one, whole(2))
        self.look(times(fraction(Ratio(1, 3)), one), [-FULL // 3, 1], Known(FULL // 3))
        self.refused(TooGreat, over, one, fraction(Ratio(1, 2)))
        self.refused(TooGreat, over, fraction(Ratio(1, FULL)), whole(2))
        self.look(over(one, one), [-1, 1], Known(1))
        self.refused(TooGreat, plus, fraction(Ratio(1, 10 ** 60 + 1)), fraction(Ratio(1, 10 ** 61 + 1)))
        self.refused(TooGreat, times, number([-FULL, 0, 0, 1]), square(2))

    # The least one would be x, or x - 2 * WIDE^2, or x - 2.
    def test_too_great_by_s_though_the_least_would_be_small(self):
        one = number([-2 * WIDE ** 2, 0, 1], Ratio(0))
        self.refused(TooGreat, minus, one, one)
        self.refused(TooGreat, plus, one, opposite(one))
        self.refused(TooGreat, times, one, one)
        self.refused(TooGreat, over, one, inverse(one))
        self.look(over(one, one), [-1, 1], Known(1))
        self.look(power(one, 2), [-2 * WIDE ** 2, 1], Known(2 * WIDE ** 2))
        less = number([-2 * (WIDE // 7) ** 2, 0, 1], Ratio(0))
        self.look(minus(less, less), [0, 1], Known(0))
        mixed = number(product([-2, 0, 0, 1], [-10 ** 50, 1]), Ratio(0), Ratio(2))
        self.refused(TooGreat, power, mixed, 3)
        self.look(power(number(product([-2, 0, 0, 1], [-10 ** 30, 1]), Ratio(0), Ratio(2)), 3), [-2, 1], Known(2))


class Powers(NumberCase):
    def test_of_fractions(self):
        for at in [Fraction(end) for end in (0, 1, -1, 2, -3, Fraction(1, 2), Fraction(-3, 2), Fraction(22, 7), 10 ** 14)]:
            for k in range(9):
                for one in Square(at, 0, 2).made():
                    self.look(power(one, k), line(at ** k), Known(at ** k))

    def test_of_nought_and_to_nought(self):
        for k in range(1, 9):
            self.look(power(whole(0), k), [0, 1], Known(0))
        great = Number([-10 ** 129 - 7, 0, 0, 1], Ratio(0), Ratio(10 ** 50))
        for one in (whole(0), whole(-4), square(2), cube(), high(8), great, Number([0, 1], Ratio(-1), Ratio(2))):
            self.look(power(one, 0), [-1, 1], Known(1))

    def test_of_square_roots(self):
        for told in (Square(0, 1, 2), Square(0, -1, 3), Square(1, 1, 5), Square(1, -1, 2), Square(-3, 1, 7), Square(Fraction(1, 2), Fraction(1, 2), 5)):
            for k in range(9):
                for one in told.made():
                    self.look(power(one, k), told.power(k).row(), told.power(k).known())

    def test_of_higher_ones(self):
        for way in (1, -1):
            one = cube() if way == 1 else opposite(cube())
            for k in range(1, 9):
                raised = Known(0, way ** k, 2 ** k, 3)
                self.look(power(one, k), *((line(way ** k * 2 ** (k // 3)), Known(way ** k * 2 ** (k // 3))) if k % 3 == 0 else (raised.row(), raised)))
        for way in (1, -1):
            self.look(power(high(8, way), 8), [-2, 1], Known(2))
            self.look(power(high(8, way), 4), [-2, 0, 1], Known(0, 1, 2))
            self.look(power(high(8, way), 2), [-2, 0, 0, 0, 1], Known(0, 1, 2, 4))
            self.look(power(high(8, way), 6), [-8, 0, 0, 0, 1], Known(0, 1, 8, 4))
            self.look(power(high(8, way), 1), [-2] + [0] * 7 + [1], Known(0, way, 2, 8))
            self.look(power(high(8, way), 3), [-8] + [0] * 7 + [1], Known(0, way, 8, 8))
        # x^3 = x + 1, so x^3 - 1 is a root of the same poly.
        one = number([-1, -1, 0, 1])
        self.assertEqual(compare(power(one, 3), plus(one, whole(1))), 0)
        self.assertEqual(power(one, 3).poly, [-1, 2, -3, 1])

    def test_across_nought(self):
        for k in range(1, 9):
            one = Number([-2, 0, 0, 1], Ratio(-100), Ratio(2))
            self.assertEqual(compare(power(one, k), power(cube(), k)), 0)
            small = Known(Fraction(-1, 10 ** 6), 1, Fraction(2, 10 ** 12))
            self.look(power(Number(small.row(), Ratio(0), Ratio(5)), k), *self.small_told(k))

    def small_told(self, k):
        told = Square(-1, 1, 2).power(k)
        told = Square(told.p / 10 ** (6 * k), told.q / 10 ** (6 * k), 2)
        return told.row(), told.known()

    def test_too_great(self):
        self.look(power(whole(10 ** 15 - 1), 8), line((10 ** 15 - 1) ** 8), Known((10 ** 15 - 1) ** 8))
        for k in range(1, 9):
            edge = 10 ** (120 // k) if 120 % k == 0 else 10 ** (120 // k + 1)
            self.refused(TooGreat, power, Number([-edge, 1], Ratio(0), Ratio(edge)), k)
            self.refused(TooGreat, power, Number([1, edge], Ratio(-1), Ratio(0)), k)
        self.refused(TooGreat, power, Number([-10 ** 129, 1], Ratio(0), Ratio(10 ** 130)), 1)
        self.refused(TooGreat, power, number([-10 ** 60 - 1, 0, 0, 1]), 2)
        self.look(power(whole(FULL), 1), [-FULL, 1], Known(FULL))


class Rooted(NumberCase):
    def test_of_fractions(self):
        for at in [Fraction(end) for end in (1, 2, 3, 5, 6, Fraction(1, 2), Fraction(3, 7), Fraction(22, 7), 10 ** 50 + 151)]:
            for k in range(1, 9):
                told = Known(0, 1, at, k) if k > 1 and at != 1 else Known(at)
                for one in Square(at, 0, 2).made():
                    self.look(root(one, k), told.row(), told)
                if k % 2:
                    told = Known(0, -1, at, k) if k > 1 and at != 1 else Known(-at)
                    for one in Square(-at, 0, 2).made():
                        self.look(root(one, k), told.row(), told)

    def test_that_are_fractions(self):
        for at in [Fraction(end) for end in (1, 2, 7, Fraction(1, 2), Fraction(3, 2), Fraction(22, 7), 10 ** 14)]:
            for k in range(1, 9):
                self.look(root(fraction(ratio(at ** k)), k), line(at), Known(at))
                if k % 2:
                    self.look(root(fraction(ratio((-at) ** k)), k), line(-at), Known(-at))

    def test_the_poly_is_the_least_one(self):
        for k, at, told in ((4, 4, 2), (4, 9, 3), (6, 8, 2), (8, 16, 2), (4, Fraction(1, 4), Fraction(1, 2)), (6, 27, 3)):
            self.look(root(fraction(ratio(at)), k), Known(0, 1, told).row(), Known(0, 1, told))
        self.look(root(whole(9), 6), [-9, 0, 0, 0, 0, 0, 1], Known(0, 1, 3, 3))
        self.look(root(whole(-4), 3), [4, 0, 0, 1], Known(0, -1, 4, 3))

    def test_of_nought(self):
        for one in (whole(0), Number([0, 1], Ratio(-5), Ratio(0)), Number([0, 1], Ratio(-1), Ratio(7))):
            for k in range(1, 9):
                self.look(root(one, k), [0, 1], Known(0))

    def test_of_square_roots(self):
        for k in range(1, 5):
            self.look(root(square(2), k), [-2] + [0] * (2 * k - 1) + [1], Known(0, 1, 2, 2 * k))
        self.look(root(opposite(square(2)), 3), [-2] + [0] * 5 + [1], Known(0, -1, 2, 6))
        self.look(root(opposite(square(2)), 1), [-2, 0, 1], Known(0, -1, 2))
        # Squares and cubes of p + q sqrt(r): the root is of degree two again.
        for told in (Square(1, 1, 2), Square(-1, 1, 2), Square(3, -1, 5), Square(Fraction(1, 2), Fraction(1, 2), 5), Square(2, -1, 3)):
            for k in (1, 2, 3, 4):
                for one in told.power(k).made():
                    self.look(root(one, k), told.row(), told.known())
                    if k % 2:
                        self.look(root(opposite(one), k), told.opposite().row(), told.opposite().known())
        # Of the square of a number below 0 the root is the one above 0.
        told = Square(1, -1, 2)
        for one in told.power(2).made():
            self.look(root(one, 2), told.opposite().row(), told.opposite().known())

    def test_of_higher_ones(self):
        self.look(root(cube(), 2), [-2, 0, 0, 0, 0, 0, 1], Known(0, 1, 2, 6))
        self.look(root(high(4), 2), [-2] + [0] * 7 + [1], Known(0, 1, 2, 8))
        self.look(root(high(8), 1), [-2] + [0] * 7 + [1], Known(0, 1, 2, 8))
        self.look(root(high(8, -1), 1), [-2] + [0] * 7 + [1], Known(0, -1, 2, 8))
        one = number([-1, -1, 0, 1])
        said = root(one, 2)
        self.assertEqual((said.poly, compare(power(said, 2), one)), ([-1, 0, -1, 0, 0, 0, 1], 0))
        one = number(product([0, 1], [-2, 0, 0, 1]), Ratio(0))
        self.look(root(one, 2), product([0, 1], [-2, 0, 0, 0, 0, 0, 1]), Known(0, 1, 2, 6))

    def test_below_nought(self):
        great = Number([10 ** 129 + 7, 0, 0, 1], Ratio(-10 ** 50), Ratio(0))
        ones = [whole(-1), fraction(Ratio(-1, 10 ** 100)), opposite(square(2)), opposite(cube()), high(8, -1), high(7, -1), great]
        for one in ones + [Number([1, 2], Ratio(-5), Ratio(5)), Number([2, 0, 0, 1], Ratio(-5), Ratio(5))]:
            for k in (2, 4, 6, 8):
                self.refused(BelowNought, root, one, k)

    def test_too_high(self):
        for degree in range(1, 9):
            for way in (1, -1):
                for k in range(1, 9):
                    if k * degree > 8 and (way == 1 or k % 2):
                        found = self.refused(TooHigh, root, high(degree, way), k).degree
                        self.assertEqual(found, k * degree)
                        self.assertIs(type(found), int)
        great = Number([-10 ** 129 - 7, 0, 0, 1], Ratio(0), Ratio(10 ** 50))
        self.assertEqual(self.refused(TooHigh, root, great, 3).degree, 9)
        self.assertEqual(self.refused(TooHigh, root, opposite(great), 5).degree, 15)

    def test_too_great(self):
        great = Number([-10 ** 129 - 7, 0, 0, 1], Ratio(0), Ratio(10 ** 50))
        for k in (1, 2):
            self.refused(TooGreat, root, great, k)
        for k in range(1, 9):
            self.refused(TooGreat, root, Number([-FULL - 1, 1], Ratio(0), Ratio(10 ** 121)), k)
            self.refused(TooGreat, root, Number([-1, FULL + 1], Ratio(0), Ratio(1)), k)
        self.refused(TooGreat, root, Number([-10 ** 122, 1], Ratio(0), Ratio(10 ** 123)), 2)
        self.look(root(whole(FULL), 1), [-FULL, 1], Known(FULL))
        self.look(root(whole(FULL), 2), [-FULL, 0, 1], Known(0, 1, FULL))


class MadeInManyWays(NumberCase):
    # Alike numbers come out alike, whatever way they were made.
    def test_alike(self):
        two, three, half = square(2), square(3), fraction(Ratio(1, 2))
        golden = times(plus(whole(1), square(5)), half)
        pairs = [
            (times(two, three), square(6)), (power(plus(two, three), 2), plus(whole(5), times(whole(2), square(6)))),
            (over(whole(1), minus(three, two)), plus(three, two)), (power(golden, 2), plus(golden, whole(1))),
            (root(plus(whole(3), times(whole(2), two)), 2), plus(whole(1), two)),
            (root(plus(whole(2), square(5)), 3), golden), (inverse(golden), minus(golden, whole(1))),
            (root(root(whole(2), 2), 3), root(root(whole(2), 3), 2)), (power(root(whole(5), 8), 4), square(5)),
            (minus(plus(two, three), three), two), (times(over(two, three), three), two), (opposite(minus(two, three)), minus(three, two)),
        ]
        for one, other in pairs:
            self.assertEqual(compare(one, other), 0)


class NothingIsShared(unittest.TestCase):
    def test_numbers_stay(self):
        pairs = ((square(2), square(3)), (cube(), whole(3)), (whole(2), fraction(Ratio(-1, 3))), (square(5), square(5)))
        for one, other in pairs:
            for call in (plus, minus, times, over):
                look_at_sharing(self, call, lambda: [one, other])
            for call in (opposite, inverse):
                look_at_sharing(self, call, lambda: [one])
            for k in (0, 1, 2):
                look_at_sharing(self, power, lambda: [one, k])
                look_at_sharing(self, root, lambda: [one, k // 2 + 1])

    def test_refused_ones_stay(self):
        for call, given in ((plus, (cube(), cube())), (over, (cube(), whole(0))), (inverse, (whole(0),)), (root, (opposite(square(2)), 2)), (power, (whole(10 ** 100), 2))):
            kept = shown(given, True)
            with self.assertRaises(ValueError):
                call(*given)
            self.assertEqual(shown(given, True), kept)

    def test_lists_of_hand_made_numbers(self):
        row = [-2, 0, 0, 1]
        one = Number(row, Ratio(1), Ratio(2))
        said = [opposite(one), inverse(one), plus(one, whole(1)), root(one, 1), power(one, 1)]
        row[0] = 5
        row.append(8)
        self.assertEqual([told.poly for told in said], [[2, 0, 0, 1], [-1, 0, 0, 2], [-3, 3, -3, 1], [-2, 0, 0, 1], [-2, 0, 0, 1]])
        self.assertEqual(compare(root(one, 1), one), 0)


if __name__ == "__main__":
    unittest.main()
