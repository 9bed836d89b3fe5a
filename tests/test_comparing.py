import random
import unittest
from fractions import Fraction
from itertools import permutations

from helpers import GREAT, Known, line, look_at_sharing, product, raised, ratio, row_with, scaled, shown, sign, squares, worth
from rootspan.numbers import Number, against, compare, fraction, narrow, number, ordered, roots, side, sign_of
from rootspan.ratios import Ratio

NEAR = Fraction(1, 10 ** 40)
SQUARE = Fraction(14142135623730950488016887242096980785696, 10 ** 40)
CUBE = Fraction(12599210498948731647672106072782283505702, 10 ** 40)
MINUS, PLUS = squares(0, 2)
CUBED = Known(0, 1, 2, 3)


# A fraction's Number, by the functions and by hand, in the middle of its span, at its high, near its low.
def of_fraction(root):
    at = Fraction(root)
    row = line(at)
    ends = [(at - 1, at + 1), (at - 10 ** 9, at), (at - NEAR ** 2, at + 5), (at - Fraction(1, 3), at + NEAR)]
    return [fraction(ratio(at))] + [Number(row, ratio(low), ratio(high)) for low, high in ends]


def of_square(way, low, high, wide):
    row = [-2, 0, 1]
    ends = sorted([way * low, way * high])
    wider = sorted([Fraction(0), Fraction(way * wide)])
    made = [number(row, ratio(wider[0]), ratio(wider[1])), Number(row, ratio(ends[0]), ratio(ends[1]))]
    return made + [Number(row, ratio(wider[0]), ratio(wider[1])), narrow(made[0], Ratio(1, 10 ** 100))]


# Alike numbers of which the polys are not: none of their factors can be told from the others by the least.
def of_cube(root, ends):
    row = root.row()
    made = [number(row), Number(row, Ratio(-10 ** 9), Ratio(10 ** 9)), narrow(number(row), Ratio(1, 10 ** 80))]
    for other in ([-5, 1], [0, 1], [1, 0, 1], [-3, 0, 0, 1], product([-7, 0, 1], [5, 1]), [3, -1, 0, 0, 0, 1]):
        for low, high in ends:
            made.append(number(product(row, other), ratio(low), ratio(high)))
    return made


# Rising; the Numbers of one row are alike.
RISING = [
    [fraction(Ratio(-10 ** 100))],
    of_fraction(Fraction(-7, 3)),
    of_fraction(-SQUARE - NEAR),
    of_square(-1, SQUARE, SQUARE + NEAR, 100),
    of_fraction(-SQUARE),
    of_cube(Known(0, -1, 2, 3), [(Fraction(-4, 3), -1)]),
    of_fraction(-1),
    [fraction(ratio(-NEAR ** 2))],
    of_fraction(0),
    [fraction(ratio(NEAR ** 2))],
    [number(Known(0, 1, NEAR ** 2 / 7, 3).row())],
    of_fraction(Fraction(1, 2)),
    of_fraction(1),
    of_fraction(CUBE),
    of_cube(CUBED, [(1, Fraction(4, 3)), (CUBE, CUBE + NEAR)]),
    [number(Known(0, 1, 2 + NEAR ** 2, 3).row())],
    of_fraction(CUBE + NEAR),
    of_fraction(SQUARE),
    of_square(1, SQUARE, SQUARE + NEAR, 100),
    [number(Known(0, 1, 2 + NEAR ** 2, 2).row(), Ratio(0))],
    of_fraction(SQUARE + NEAR),
    [number([-40, 0, 0, 0, 0, 0, 0, 1, 1], Ratio(0)), number([-40, 0, 0, 0, 0, 0, 0, 1, 1], Ratio(7, 5), Ratio(3, 2))],
    of_fraction(Fraction(3, 2)),
    [number([-1, -1, 1], Ratio(0))],
    of_fraction(2),
    [fraction(Ratio(10 ** 100))],
]


class Compare(unittest.TestCase):
    def test_all_of_them(self):
        for j, ones in enumerate(RISING):
            for k, others in enumerate(RISING):
                for one in ones:
                    for other in others:
                        said = compare(one, other)
                        self.assertIs(type(said), int)
                        self.assertEqual(said, sign(j - k), (shown(one, True), shown(other, True)))

    def test_very_near_ones(self):
        tiny, small = NEAR ** 3, NEAR * Fraction(1, 10 ** 20)
        cases = [
            (CUBED, Known(0, 1, 2 + tiny, 3)), (Known(0, 1, 2 - tiny, 3), CUBED), (PLUS, Known(0, 1, 2 + tiny)),
            (Known(1, 1, 2), Known(1 + small, 1, 2)), (Known(1 - small, -1, 2), Known(1, -1, 2)), (Known(0, 1, 2, 8), Known(0, 1, 2 + tiny, 8)),
        ]
        for less, more in cases:
            ends = (Ratio(0), Ratio(3)) if less.way > 0 else (Ratio(-1), Ratio(0))
            one, other = Number(less.row(), *ends), Number(more.row(), *ends)
            self.assertEqual((compare(one, other), compare(other, one)), (-1, 1))
            self.assertEqual((compare(one, one), compare(other, Number(more.row(), *ends))), (0, 0))

    def test_roots_of_one_polynomial(self):
        for row in ([1, -3, 0, 1], [1, 0, -10, 0, 1], [3, -6, 0, 0, 0, 1], product([1, -3, 0, 1], [1, 0, -10, 0, 1])):
            told = roots(row)
            for j, one in enumerate(told):
                for k, other in enumerate(told):
                    self.assertEqual(compare(one, other), sign(j - k))

    def test_alike_ones_in_other_polynomials(self):
        first = roots([1, -3, 0, 1])
        for other in ([-5, 0, 1], [1, 0, 1], [-7, 1], [-2, 0, 0, 1]):
            row = product([1, -3, 0, 1], other)
            second = [one for one in roots(row) if len(one.poly) == len(row)]
            alike = [[compare(one, another) for another in second].count(0) for one in first]
            self.assertEqual(alike, [1, 1, 1])

    def test_drawn_fractions(self):
        source = random.Random(91)
        for _ in range(300):
            one, other = [Fraction(source.randrange(-20, 21), source.randrange(1, 9)) for _ in range(2)]
            self.assertEqual(compare(source.choice(of_fraction(one)), source.choice(of_fraction(other))), sign(one - other))


class Against(unittest.TestCase):
    def test_fractions(self):
        for root in (Fraction(0), Fraction(-7, 3), Fraction(1, 2), SQUARE, Fraction(10 ** 60)):
            for one in of_fraction(root):
                for at in (root, root + NEAR, root - NEAR, root + 1, root - 1, root + 10 ** 12, root - 10 ** 12, worth(one.low), worth(one.high)):
                    said = against(one, ratio(at))
                    self.assertIs(type(said), int)
                    self.assertEqual(said, sign(root - at), (shown(one, True), at))

    def test_roots_that_are_no_fractions(self):
        cases = [(MINUS, of_square(-1, SQUARE, SQUARE + NEAR, 100)), (PLUS, of_square(1, SQUARE, SQUARE + NEAR, 100))]
        cases.append((CUBED, of_cube(CUBED, [(1, Fraction(4, 3)), (CUBE, CUBE + NEAR)])))
        for root, ones in cases:
            for one in ones:
                ats = [worth(one.low), worth(one.high), (worth(one.low) + worth(one.high)) / 2, Fraction(0), Fraction(7, 5), Fraction(5, 4)]
                for near in (SQUARE, -SQUARE, CUBE):
                    ats += [near, near + NEAR, near - NEAR]
                for at in ats:
                    self.assertEqual(against(one, ratio(at)), 1 if root.above(at) else -1, (shown(one, True), at))

    def test_ends(self):
        half = Fraction(1, 2)
        for low, high in ((0, 1), (0, half), (Fraction(1, 4), half), (Fraction(49, 100), 100)):
            one = Number([-1, 2], ratio(low), ratio(high))
            self.assertEqual(against(one, ratio(low)), 1)
            self.assertEqual(against(one, ratio(high)), sign(half - high))
            self.assertEqual(against(one, Ratio(1, 2)), 0)
            self.assertEqual(against(one, ratio(high + 1)), -1)
            self.assertEqual(against(one, ratio(low - 1)), 1)

    def test_other_roots_outside_the_span(self):
        row = product([-2, 0, 0, 1], [0, 1], [-5, 1])
        one = Number(row, Ratio(1), Ratio(5, 2))
        for at in (0, -1, 5, 6, 1, Fraction(5, 2), Fraction(5, 4), Fraction(4, 3), 3):
            self.assertEqual(against(one, ratio(at)), 1 if CUBED.above(at) else -1)
        one = Number(product([-2, 0, 0, 1], [-5, 1]), Ratio(-10 ** 9), Ratio(4))
        self.assertEqual((against(one, Ratio(5)), against(one, Ratio(1))), (-1, 1))


class SignOf(unittest.TestCase):
    def test_signs(self):
        at = [k for k, ones in enumerate(RISING) if compare(ones[0], fraction(Ratio(0))) == 0]
        self.assertEqual(len(at), 1)
        for k, ones in enumerate(RISING):
            for one in ones:
                said = sign_of(one)
                self.assertIs(type(said), int)
                self.assertEqual(said, sign(k - at[0]), shown(one, True))

    def test_nought_in_the_span(self):
        for root in (NEAR, -NEAR, Fraction(1), Fraction(-1), Fraction(0)):
            for low, high in ((-2, 2), (-10 ** 50, 10 ** 50), (-1 - NEAR, 1)):
                self.assertEqual(sign_of(Number(line(root), ratio(low), ratio(high))), sign(root))
        self.assertEqual(sign_of(Number([-2, 0, 0, 1], Ratio(-100), Ratio(100))), 1)
        self.assertEqual(sign_of(Number([2, 0, 0, 1], Ratio(-100), Ratio(100))), -1)
        self.assertEqual(sign_of(Number([0, 1], Ratio(-1), Ratio(0))), 0)
        self.assertEqual(sign_of(Number([-1, 1], Ratio(0), Ratio(1))), 1)
        self.assertEqual(sign_of(Number([1, 1], Ratio(-2), Ratio(0))), -1)


class Side(unittest.TestCase):
    # Numbers with the root that each of them is.
    def samples(self):
        for root in (Fraction(0), Fraction(1), Fraction(-7, 3), CUBE):
            for one in of_fraction(root):
                yield one, Known(root)
        for way, root in ((-1, MINUS), (1, PLUS)):
            for one in of_square(way, SQUARE, SQUARE + NEAR, 100):
                yield one, root
        for one in of_cube(CUBED, [(1, Fraction(4, 3)), (CUBE, CUBE + NEAR)]):
            yield one, CUBED

    def beside(self, root, at):
        if root.way == 0:
            return sign(root.shift - at)
        return 1 if root.above(at) else -1

    def look(self, row, one, told):
        said = side(row, one)
        self.assertIs(type(said), int)
        self.assertEqual(said, told, (row, shown(one, True)))

    def test_nought_and_constants(self):
        for one, root in self.samples():
            self.look([], one, 0)
            for constant in (1, -1, 6, -10 ** 40):
                self.look([constant], one, sign(constant))

    def test_lines_and_their_products(self):
        ats = [Fraction(0), Fraction(1), Fraction(-7, 3), Fraction(5), CUBE, CUBE + NEAR, SQUARE, SQUARE + NEAR, -SQUARE, -SQUARE - NEAR]
        source = random.Random(92)
        for one, root in self.samples():
            for at in ats + [worth(one.low), worth(one.high), (worth(one.low) + worth(one.high)) / 2]:
                told = self.beside(root, at)
                self.look(line(at), one, told)
                self.look(scaled(line(at), -6), one, -told)
                self.look(raised(line(at), 2), one, told * told)
                self.look(product(raised(line(at), 3), [1, 0, 1]), one, told)
            for _ in range(6):
                some = source.sample(ats, source.randrange(2, 6))
                told = 1
                for at in some:
                    told *= self.beside(root, at)
                self.look(product(*[line(at) for at in some]), one, told)

    def test_nought_at_the_worth(self):
        for one, root in self.samples():
            for other in ([1], [-3], [0, 1], [1, 0, 1], [-5, 1], raised(root.row(), 2), GREAT):
                self.look(product(root.row(), other), one, 0)
            self.look(one.poly, one, 0)
            self.look(scaled(one.poly, -2), one, 0)

    def test_shares_another_root_with_the_poly(self):
        for other, shared, told in (([-5, 1], [-5, 1], -1), ([0, 1], [0, 1], 1), ([1, 0, 1], [1, 0, 1], 1), ([-3, 0, 0, 1], [-3, 0, 0, 1], -1)):
            one = number(product([-2, 0, 0, 1], other), Ratio(1), Ratio(4, 3))
            self.look(shared, one, told)
            self.look(scaled(product(shared, shared, shared), -4), one, -told)
            self.look(product(shared, [-4, 0, 3]), one, told)
            self.look(product(shared, [-5, 0, 3]), one, -told)
        self.look([-3, 0, 0, 1], number(product([-2, 0, 0, 1], [-3, 0, 0, 1]), Ratio(4, 3), Ratio(2)), 0)
        self.look([-2, 0, 0, 1], number(product([-2, 0, 0, 1], [-3, 0, 0, 1]), Ratio(4, 3), Ratio(2)), 1)

    def test_roots_very_near_to_the_worth(self):
        small = NEAR ** 4
        for power, ones in ((3, of_cube(CUBED, [(1, Fraction(4, 3))])), (2, of_square(1, SQUARE, SQUARE + NEAR, 100))):
            under, over = Known(0, 1, 2 - small, power).row(), Known(0, 1, 2 + small, power).row()
            for one in ones:
                self.look(under, one, 1)
                self.look(over, one, -1)
                self.look(product(under, over), one, -1)
                self.look(product(under, under, over, over), one, 1)
                self.look(product(under, over, one.poly), one, 0)

    def test_slopes_and_other_polynomials(self):
        golden = number([-1, -1, 1], Ratio(0))
        self.look([-1, 2], golden, 1)
        self.look([-13, 8], golden, -1)
        self.look([-21, 13], golden, 1)
        self.look([-2, 0, 1], golden, 1)
        self.look([0, 0, -1], golden, -1)
        self.look([1] * 41, golden, 1)
        self.look([(-1) ** k for k in range(41)], golden, 1)
        self.look([(-1) ** k for k in range(40)], golden, -1)
        self.look(row_with([Known(k) for k in range(20)]), golden, 1)
        self.look(row_with([Known(k) for k in range(21)]), golden, -1)


class Ordered(unittest.TestCase):
    def test_none_and_one(self):
        self.assertEqual(ordered([]), [])
        one = number([-2, 0, 0, 1])
        said = ordered([one])
        self.assertIs(type(said), list)
        self.assertEqual(len(said), 1)
        self.assertIs(said[0], one)

    def look(self, numbers, places):
        kept = list(numbers)
        said = ordered(numbers)
        self.assertEqual(len(numbers), len(kept))
        self.assertTrue(all(one is other for one, other in zip(numbers, kept)))
        told = [one for _, _, one in sorted((place, k, one) for k, (place, one) in enumerate(zip(places, numbers)))]
        self.assertEqual(len(said), len(told))
        for one, other in zip(said, told):
            self.assertIs(one, other)

    def test_all_orders_of_a_few(self):
        few = [RISING[3][0], RISING[8][1], RISING[8][2], RISING[14][4]]
        for order in permutations(range(4)):
            self.look([few[k] for k in order], [(0, 1, 1, 2)[k] for k in order])

    def test_drawn_ones(self):
        source = random.Random(93)
        pool = [(k, one) for k, ones in enumerate(RISING) for one in ones]
        for size in (2, 3, 5, 10, 40, len(pool)):
            for _ in range(4):
                drawn = source.sample(pool, size)
                self.look([one for _, one in drawn], [place for place, _ in drawn])

    def test_the_same_number_more_than_once(self):
        one, other = fraction(Ratio(1)), fraction(Ratio(2))
        self.look([other, one, other, one], [1, 0, 1, 0])

    def test_many(self):
        source = random.Random(94)
        values = [Fraction(source.randrange(-50, 51), source.randrange(1, 4)) for _ in range(300)]
        self.look([source.choice(of_fraction(root)) for root in values], values)


class NothingIsShared(unittest.TestCase):
    def test_nothing_is_shared(self):
        def one():
            return number([-2, 0, 0, 1])

        def other():
            return Number([0, -2, 0, 0, 1], Ratio(1), Ratio(3))

        look_at_sharing(self, against, lambda: [one(), Ratio(5, 4)])
        look_at_sharing(self, compare, lambda: [one(), other()])
        look_at_sharing(self, sign_of, lambda: [other()])
        for row in ([], [3], [-5, 4], [-2, 0, 0, 1], [1] * 10):
            look_at_sharing(self, side, lambda: [list(row), other()])
        look_at_sharing(self, ordered, lambda: [[other(), fraction(Ratio(0)), one()]])

    def test_the_list_is_the_askers_own(self):
        one, other = fraction(Ratio(1)), fraction(Ratio(2))
        for numbers in ([], [one], [one, other], [other, one]):
            kept = list(numbers)
            said = ordered(numbers)
            said.append(one)
            said.insert(0, other)
            self.assertEqual(numbers, kept)
            again = ordered(numbers)
            numbers.append(other)
            self.assertEqual(len(again), len(kept))

    def test_ratios_stay(self):
        at = Ratio(3, 2)
        against(number([-2, 0, 0, 1]), at)
        self.assertEqual((at.top, at.bottom), (3, 2))


if __name__ == "__main__":
    unittest.main()
