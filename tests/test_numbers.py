import random
import unittest
from fractions import Fraction

from helpers import (
    Known, NumberCase, line, look_at_sharing, product, raised, ratio, rational, row_with, scaled, shown, span, squares, worth,
)
from rootspan.errors import NoRoot, RootError, TooGreat, TooHigh
from rootspan.numbers import Number, fraction, narrow, number, roots
from rootspan.ratios import Ratio

FULL = 10 ** 120 - 1
CUBE = Known(0, 1, 2, 3)
HALF = Known(Fraction(1, 2))


class Looks(NumberCase):
    def no_root(self, many, *given):
        told = self.refused(NoRoot, number, *given).many
        self.assertEqual(told, many)
        self.assertIs(type(told), int)


class ByHand(unittest.TestCase):
    def test_keeps_its_fields(self):
        row, low, high = [-2, 0, 1], Ratio(1), Ratio(3, 2)
        said = Number(row, low, high)
        self.assertEqual(shown(said, True), shown(Number([-2, 0, 1], Ratio(2, 2), Ratio(6, 4)), True))
        self.assertEqual((said.poly, worth(said.low), worth(said.high)), ([-2, 0, 1], 1, Fraction(3, 2)))

    def test_poly_is_a_copy(self):
        row = [-2, 0, 1]
        said = Number(row, Ratio(1), Ratio(2))
        row.append(5)
        row[0] = 9
        self.assertEqual(said.poly, [-2, 0, 1])

    def test_looks_at_nothing(self):
        for row, low, high in (([], 0, 1), ([5], 3, 2), ([4, -6], 1, 1), ([0, 0, 1], 5, 6), ([1] * 20, 0, 1), ([-10 ** 200, 1], 0, 1)):
            said = Number(row, Ratio(low), Ratio(high))
            self.assertEqual((said.poly, worth(said.low), worth(said.high)), (row, low, high))


class OfAPolynomial(Looks):
    def test_told_examples(self):
        root = squares(0, 2)
        self.look(number([-2, 0, 1], Ratio(1), Ratio(2)), [-2, 0, 1], root[1])
        self.look(number([-2, 0, 1], Ratio(-2), Ratio(-1)), [-2, 0, 1], root[0])
        self.look(number([4, 0, -2], Ratio(0), Ratio(9)), [-2, 0, 1], root[1])
        self.look(number([-2, 0, 0, 1]), [-2, 0, 0, 1], CUBE)
        self.look(number([1, -2]), [-1, 2], HALF)

    def test_ends_left_out(self):
        for row, told in (([-6, 0, 0, 3], [-2, 0, 0, 1]), ([4, 0, 0, -2], [-2, 0, 0, 1])):
            for given in ((), (None,), (None, None), (Ratio(1),), (Ratio(1), None), (None, Ratio(2)), (Ratio(1), Ratio(2)), (Ratio(-10 ** 30),)):
                self.look(number(row, *given), told, CUBE)
        plus, minus = squares(0, 2)[1], squares(0, 2)[0]
        self.look(number([-2, 0, 1], Ratio(0)), [-2, 0, 1], plus)
        self.look(number([-2, 0, 1], Ratio(-1), None), [-2, 0, 1], plus)
        self.look(number([-2, 0, 1], None, Ratio(0)), [-2, 0, 1], minus)
        self.look(number([-2, 0, 1], None, Ratio(1)), [-2, 0, 1], minus)
        self.look(number([0, 1]), [0, 1], Known(0))
        self.look(number([0, 0, 0, -7]), [0, 1], Known(0))

    def test_the_bound_stands_for_an_end(self):
        for root in (Known(10 ** 30), Known(Fraction(-10 ** 30, 7)), Known(0, 1, 10 ** 60, 3), Known(7, -1, 10 ** 50 + 1, 3)):
            row = root.row()
            if len(row) == 4 and root.shift == 0:
                self.look(number(row), [-10 ** 20, 1], root)
            else:
                self.look(number(row), row, root)
                self.look(number(row, None, Ratio(10 ** 40)), row, root)
                self.look(number(row, Ratio(-10 ** 40)), row, root)

    def test_roots_at_the_ends(self):
        self.look(number([-1, 2], Ratio(0), Ratio(1, 2)), [-1, 2], HALF)
        self.no_root(0, [-1, 2], Ratio(1, 2), Ratio(1))
        self.look(number([-1, 0, 1], Ratio(-1), Ratio(1)), [-1, 1], Known(1))
        self.no_root(2, [-1, 0, 1], Ratio(-2), Ratio(1))
        self.no_root(0, [-1, 0, 1], Ratio(-1), Ratio(1, 2))
        self.look(number([0, -1, 0, 1], Ratio(-1), Ratio(0)), [0, 1], Known(0))
        self.no_root(1 + 1, [0, -1, 0, 1], Ratio(-1), Ratio(1))

    def test_low_is_another_root_of_the_poly(self):
        row = [0, -2, 0, 0, 1]
        for high in (2, Fraction(3, 2), 10 ** 20, Fraction(13, 10)):
            self.look(number(row, Ratio(0), ratio(high)), row, CUBE)
        self.look(number(row, Ratio(0)), row, CUBE)
        small = Known(0, 1, Fraction(2, 10 ** 60), 3)
        self.look(number(product([0, 1], small.row()), Ratio(0), Ratio(1)), product([0, 1], small.row()), small)
        near = Fraction(125992104989487316476, 10 ** 20)
        row = product(line(near), [-2, 0, 0, 1], [-7, 1])
        self.look(number(row, ratio(near), Ratio(2)), row, CUBE)
        row = product([5, 1], line(Fraction(1, 3)), [-2, 0, 0, 1])
        self.look(number(scaled(row, -6), Ratio(1, 3)), row, CUBE)

    def test_no_root(self):
        for row in ([], [1], [-5], [10 ** 130]):
            for given in ((), (Ratio(0),), (None, Ratio(0)), (Ratio(-1), Ratio(1)), (Ratio(1), Ratio(-1))):
                self.no_root(0, row, *given)
        for low, high in ((1, 1), (2, 1), (2, 0), (10 ** 30, -10 ** 30)):
            for row in ([-1, 1], [-2, 0, 1], [-3, 2], [-1, 0, 0, 1]):
                self.no_root(0, row, Ratio(low), Ratio(high))
        self.no_root(0, [1, 0, 1])
        self.no_root(2, [-2, 0, 1])
        self.no_root(0, [-2, 0, 1], Ratio(2))
        self.no_root(0, [-2, 0, 1], None, Ratio(-2))
        self.no_root(0, [-2, 0, 1], Ratio(10 ** 40))
        self.no_root(0, [-2, 0, 1], None, Ratio(-10 ** 40))
        self.no_root(0, [-2, 0, 1], Ratio(-1), Ratio(1))
        self.no_root(3, [0, -1, 0, 1])
        self.no_root(2, [0, -1, 0, 1], Ratio(-1, 2))
        self.no_root(8, row_with(rational(*range(8))))
        self.no_root(5, row_with(rational(*range(8))), Ratio(2))
        self.no_root(4, row_with(rational(*range(8))), Ratio(2), Ratio(13, 2))

    def test_squares_count_once(self):
        self.look(number([1, -2, 1]), [-1, 1], Known(1))
        self.look(number(scaled(raised([-1, 1], 8), -3)), [-1, 1], Known(1))
        self.no_root(2, product(raised([-1, 1], 3), raised([-2, 1], 2)))
        self.look(number(product(raised([-1, 1], 3), raised([-2, 1], 2)), Ratio(1)), [-2, 1], Known(2))
        self.look(number(raised([-2, 0, 0, 1], 2)), [-2, 0, 0, 1], CUBE)
        row = product([-2, 0, 0, 1], raised([-5, 1], 3))
        self.look(number(row, Ratio(0), Ratio(2)), product([-2, 0, 0, 1], [-5, 1]), CUBE)
        self.no_root(2, raised([-2, 0, 1], 4))
        self.look(number(raised([-2, 0, 1], 4), Ratio(0)), [-2, 0, 1], squares(0, 2)[1])

    def test_too_high(self):
        rows = [
            raised([-1, 1], 9), [0] * 9 + [1], [-2] + [0] * 8 + [1], [1] + [0] * 9 + [1], [10 ** 120] + [0] * 8 + [-1], [3] * 41,
            row_with(rational(*range(9))), product([10 ** 120, 1], [1] + [0] * 7 + [1]),
        ]
        for row in rows:
            for given in ((), (Ratio(0), Ratio(3)), (Ratio(3), Ratio(0)), (Ratio(0), Ratio(0)), (None, Ratio(-50))):
                told = self.refused(TooHigh, number, row, *given).degree
                self.assertEqual(told, len(row) - 1)
        self.look(number([-2] + [0] * 7 + [1], Ratio(0)), [-2] + [0] * 7 + [1], Known(0, 1, 2, 8))

    def test_too_great(self):
        for row in ([-FULL, 1], [FULL, 1], [-FULL, 2], [FULL - 1, -FULL], [1, FULL], [-1, FULL], [1, -FULL]):
            root = Fraction(-row[0], row[1])
            self.look(number(row), line(root), Known(root))
        for row in ([-FULL - 1, 1], [FULL + 1, 1], [1, FULL + 1], [1, -FULL - 1], [-1, 10 ** 130], [FULL + 2, -FULL], [3, 0, 0, FULL + 1]):
            self.refused(TooGreat, number, row)
        self.look(number([-FULL, 0, 0, 1]), [-FULL, 0, 0, 1], Known(0, 1, FULL, 3))
        self.refused(TooGreat, number, [-FULL - 2, 0, 0, 1])
        row = [-1, FULL, 0, 2]
        self.assertEqual(number(row).poly, row)
        self.assertEqual(number([-1, 0, 0, 0, 0, -FULL, 0, 2], Ratio(1)).poly, [-1, 0, 0, 0, 0, -FULL, 0, 2])
        self.refused(TooGreat, number, [-1, FULL + 1, 0, 2])
        self.refused(TooGreat, number, [1, -FULL - 1, 0, -2])

    def test_too_great_is_told_of_the_roots_each_once(self):
        self.look(number([-10 ** 130, 10 ** 130]), [-1, 1], Known(1))
        big = 10 ** 100
        self.look(number([big * big, -2 * big, 1]), [-big, 1], Known(big))
        self.refused(TooGreat, number, product([-2, 1], [-FULL - 1, 1]), Ratio(0), Ratio(5))
        self.refused(TooGreat, number, product([-2, 0, 1], [1, 0, FULL + 2]), Ratio(0))

    def test_order_of_the_refusals(self):
        great = product([-2, 0, 1], [-FULL - 1, 1])
        self.no_root(2, great, Ratio(-2), Ratio(2))
        self.no_root(3, great)
        self.no_root(0, great, Ratio(2), Ratio(3))
        self.no_root(0, great, Ratio(2), Ratio(-2))
        self.no_root(0, [FULL + 1, 0, 1])
        self.refused(TooGreat, number, great, Ratio(0), Ratio(2))
        high = product(great, [1] + [0] * 5 + [1])
        self.assertEqual(self.refused(TooHigh, number, high, Ratio(0), Ratio(2)).degree, 9)
        self.assertEqual(self.refused(TooHigh, number, high).degree, 9)
        self.assertEqual(self.refused(TooHigh, number, high, Ratio(5), Ratio(2)).degree, 9)

    def test_least_of_the_roots_each_once(self):
        golden = squares(Fraction(1, 2), Fraction(5, 4))
        row = product(raised(golden[0].row(), 2), [-2, 0, 0, 1], [3, 1])
        self.look(number(row, Ratio(3, 2)), [-1, -1, 1], golden[1])
        self.look(number(scaled(row, -4), Ratio(-1), Ratio(0)), [-1, -1, 1], golden[0])
        self.look(number(row, None, Ratio(-1)), [3, 1], Known(-3))
        self.look(number(row, Ratio(1), Ratio(3, 2)), product([-1, -1, 1], [-2, 0, 0, 1], [3, 1]), CUBE)


class OfARatio(Looks):
    def test_ordinary(self):
        for root in (0, 1, -1, 7, -12, Fraction(1, 2), Fraction(-3, 2), Fraction(22, 7), 10 ** 60, Fraction(-1, 10 ** 60)):
            self.look(fraction(ratio(root)), line(root), Known(root))

    def test_figures(self):
        for root in (Fraction(FULL), Fraction(-FULL), Fraction(1, FULL), Fraction(-1, FULL), Fraction(FULL, FULL - 1), Fraction(1 - FULL, FULL)):
            self.look(fraction(ratio(root)), line(root), Known(root))
        more = FULL + 1
        for root in (Fraction(more), Fraction(-more), Fraction(1, more), Fraction(-1, more), Fraction(more, FULL), Fraction(-FULL, more), Fraction(10 ** 200)):
            self.refused(TooGreat, fraction, ratio(root))


class Roots(Looks):
    def look_at_all(self, row, known):
        said = roots(row)
        self.assertIs(type(said), list)
        self.assertEqual(len(said), len(known))
        for one, (root, told) in zip(said, known):
            self.look(one, told, root)

    def test_none(self):
        for row in ([], [1], [-1], [6], [-10 ** 130], [1, 0, 1], [-3, -1, -1], [1, 0, 0, 0, 1], raised([1, 0, 1], 4)):
            self.assertEqual(roots(row), [])

    def test_one(self):
        self.look_at_all([0, -3], [(Known(0), [0, 1])])
        self.look_at_all([4, -6], [(Known(Fraction(2, 3)), [-2, 3])])
        self.look_at_all([-2, 0, 0, 1], [(CUBE, [-2, 0, 0, 1])])
        self.look_at_all(raised([1, 2], 8), [(Known(Fraction(-1, 2)), [1, 2])])

    def test_several(self):
        both = squares(0, 2)
        self.look_at_all([-2, 0, 1], [(root, [-2, 0, 1]) for root in both])
        self.look_at_all([4, 0, -2], [(root, [-2, 0, 1]) for root in both])
        row = product([0, 1], [-2, 0, 1], [1, 0, 1], [-1, 2], [-5, 3])
        told = [(both[0], [-2, 0, 1]), (Known(0), [0, 1]), (HALF, [-1, 2]), (both[1], [-2, 0, 1]), (Known(Fraction(5, 3)), [-5, 3])]
        self.look_at_all(row, told)
        self.look_at_all(scaled(row, -6), told)
        row = product([-2, 0, 0, 1], [-2, 0, 1], [0, 1])
        self.look_at_all(row, [(both[0], [-2, 0, 1]), (Known(0), [0, 1]), (CUBE, row), (both[1], [-2, 0, 1])])
        self.look_at_all(row_with(rational(*range(-4, 4))), [(Known(k), [-k, 1]) for k in range(-4, 4)])

    def test_with_squares(self):
        both = squares(0, 2)
        row = product(raised([-2, 0, 1], 2), raised([0, 1], 3), [-1, 1])
        self.look_at_all(row, [(both[0], [-2, 0, 1]), (Known(0), [0, 1]), (Known(1), [-1, 1]), (both[1], [-2, 0, 1])])
        row = product(raised([-2, 0, 0, 1], 2), raised([0, 1], 2))
        self.look_at_all(row, [(Known(0), [0, 1]), (CUBE, [0, -2, 0, 0, 1])])

    def test_near_ones(self):
        near = Fraction(1, 10 ** 30)
        self.look_at_all(row_with(rational(1, 1 + near)), [(Known(1), [-1, 1]), (Known(1 + near), line(1 + near))])
        self.look_at_all(row_with(rational(0, near, -near)), [(Known(root), line(root)) for root in (-near, 0, near)])
        row = product([-2, 0, 0, 1], Known(0, 1, 2 + near, 3).row())
        self.look_at_all(row, [(CUBE, row), (Known(0, 1, 2 + near, 3), row)])

    def test_drawn_ones(self):
        source = random.Random(81)
        for _ in range(40):
            shifts = sorted({Fraction(source.randrange(-30, 31), source.randrange(1, 9)) for _ in range(source.randrange(1, 7))})
            row = scaled(row_with(rational(*shifts), [[1, 0, 1]]), source.choice((1, -1, 6)))
            self.look_at_all(row, [(Known(root), line(root)) for root in shifts])

    def test_too_high(self):
        for row in ([0] * 9 + [1], raised([-1, 1], 9), [1] + [0] * 9 + [1], [FULL + 1] + [0] * 8 + [1], [2] * 41):
            self.assertEqual(self.refused(TooHigh, roots, row).degree, len(row) - 1)
        self.assertEqual(len(roots([-2] + [0] * 7 + [1])), 2)

    def test_too_great(self):
        for row in ([FULL + 1, 0, 1], [1, 0, FULL + 1], [-FULL - 1, 1], [3, 0, 0, -FULL - 1], [7, FULL + 1, 0, 1], product([0, 1], [1, FULL + 1])):
            self.refused(TooGreat, roots, row)
        self.assertEqual(roots([FULL, 0, 1]), [])
        self.assertEqual(roots([1, 0, FULL]), [])
        self.assertEqual(roots([10 ** 130, 0, 10 ** 130]), [])
        self.look_at_all([-FULL, 1], [(Known(FULL), [-FULL, 1])])
        self.look_at_all([FULL, 1], [(Known(-FULL), [FULL, 1])])
        big = 10 ** 100
        self.look_at_all([big * big, -2 * big, 1], [(Known(big), [-big, 1])])


class Narrow(Looks):
    def samples(self):
        near = Fraction(1, 10 ** 20)
        yield number([-2, 0, 1], Ratio(0)), squares(0, 2)[1]
        yield number([-2, 0, 0, 1]), CUBE
        yield number([0, -2, 0, 0, 1], Ratio(0)), CUBE
        yield fraction(Ratio(0)), Known(0)
        yield fraction(Ratio(-22, 7)), Known(Fraction(-22, 7))
        yield Number([-1, 2], Ratio(0), Ratio(1)), HALF
        yield Number([-1, 2], Ratio(0), Ratio(1, 2)), HALF
        yield Number([-1, 2], Ratio(-5, 3), Ratio(10 ** 20)), HALF
        yield Number([-2, 0, 1], Ratio(7, 5), Ratio(3, 2)), squares(0, 2)[1]
        yield Number([-2, 0, 1], Ratio(-10 ** 9), Ratio(0)), squares(0, 2)[0]
        row = product([-2, 0, 0, 1], line(Fraction(125992104989487316476, 10 ** 20)), [-7, 1])
        yield Number(row, ratio(Fraction(125992104989487316476, 10 ** 20) + near / 10 ** 6), Ratio(2)), CUBE

    def test_widths(self):
        for one, root in self.samples():
            low, high = span((one.low, one.high))
            wide = high - low
            widths = [wide, 2 * wide, wide / 2, wide / 4, wide / 3, wide * Fraction(99, 100), Fraction(1), Fraction(1, 10 ** 6), Fraction(1, 10 ** 60), Fraction(3, 10 ** 200)]
            for width in widths:
                kept = shown(one, True)
                said = narrow(one, ratio(width))
                self.look(said, one.poly, root)
                lower, higher = span((said.low, said.high))
                self.assertTrue(low <= lower and higher <= high)
                self.assertLessEqual(higher - lower, width)
                self.assertEqual(shown(one, True), kept)

    def test_of_narrowed_ones(self):
        one = number([-2, 0, 0, 1])
        for k in range(1, 40):
            one = narrow(one, Ratio(1, 10 ** k))
            self.look(one, [-2, 0, 0, 1], CUBE)
            self.assertLessEqual(worth(one.high) - worth(one.low), Fraction(1, 10 ** k))


class NothingIsShared(unittest.TestCase):
    def test_number_and_roots(self):
        for row in ([-2, 0, 0, 1], [4, -6], [0, 0, 0, -7], [1, -2, 1]):
            look_at_sharing(self, number, lambda: [list(row)])
            look_at_sharing(self, number, lambda: [list(row), Ratio(-1), Ratio(2)])
        for row in ([], [5], [1, 0, 1], [-2, 0, 1], [0, -1, 0, 1], [0, -2, 0, 0, 1]):
            look_at_sharing(self, roots, lambda: [list(row)])

    def test_refused_ones_stay(self):
        for call, row in ((number, [-2, 0, 1]), (number, [1] * 10), (number, [FULL + 1, 1]), (roots, [1] * 10), (roots, [FULL + 1, 1])):
            kept = list(row)
            with self.assertRaises(RootError):
                call(row)
            self.assertEqual(row, kept)

    def test_numbers_stay_when_lists_change(self):
        row = [-2, 0, 0, 1]
        one, all_of_them = number(row), roots(row)
        narrower = narrow(one, Ratio(1, 100))
        row[0] = 5
        row.append(1)
        for said in [one, narrower] + all_of_them:
            self.assertEqual(said.poly, [-2, 0, 0, 1])

    def test_roots_give_a_list_of_the_askers_own(self):
        first = roots([-2, 0, 1])
        first.reverse()
        first.append(3)
        second = roots([-2, 0, 1])
        self.assertEqual([one.poly for one in second], [[-2, 0, 1], [-2, 0, 1]])
        self.assertLess(worth(second[0].low), 0)
        self.assertGreater(worth(second[1].high), 0)

    def test_ratios_stay(self):
        low, high, width = Ratio(0), Ratio(5, 2), Ratio(1, 10)
        one = number([-2, 0, 1], low, high)
        narrow(one, width)
        fraction(width)
        self.assertEqual([shown(r) for r in (low, high, width)], [("ratio", 0, 1), ("ratio", 5, 2), ("ratio", 1, 10)])

    def test_narrow(self):
        for width in (Ratio(10), Ratio(1, 10)):
            look_at_sharing(self, narrow, lambda: [number([-2, 0, 0, 1]), width])
        look_at_sharing(self, fraction, lambda: [Ratio(3, 4)])


if __name__ == "__main__":
    unittest.main()
