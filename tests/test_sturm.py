import random
import unittest
from fractions import Fraction
from math import gcd, lcm

from helpers import GREAT, Known, built, look_at_sharing, product, ratio, rational, row_with, scaled, squares
from rootspan.ratios import Ratio
from rootspan.sturm import changes, count, row_of


# The row by another way than the program's: with fractions.
def shrunk_of(row):
    size = lcm(*[c.denominator for c in row]) if row else 1
    whole = [int(c * size) for c in row]
    return [c // gcd(*whole) for c in whole]


def rest_of(row, other):
    rest = [Fraction(c) for c in row]
    while len(rest) >= len(other):
        lead = rest[-1] / other[-1]
        shift = len(rest) - len(other)
        rest = [c - (lead * other[k - shift] if k >= shift else 0) for k, c in enumerate(rest)][:-1]
        while rest and rest[-1] == 0:
            rest.pop()
    return rest


def fraction_row(row):
    found = [shrunk_of([Fraction(c) for c in row]), shrunk_of([Fraction(k * c) for k, c in enumerate(row)][1:])]
    while found[-1]:
        found.append(shrunk_of([-c for c in rest_of(found[-2], found[-1])]))
    return found[:-1]


class RowOf(unittest.TestCase):
    def test_nought_and_constants(self):
        self.assertEqual(row_of([]), [])
        for constant, told in ((1, 1), (-1, -1), (6, 1), (-6, -1), (10 ** 40, 1), (-10 ** 40, -1)):
            self.assertEqual(row_of([constant]), [[told]])

    def test_degree_one(self):
        cases = [
            ([0, 1], [[0, 1], [1]]), ([4, 6], [[2, 3], [1]]), ([4, -6], [[2, -3], [-1]]), ([-3, -3], [[-1, -1], [-1]]),
        ]
        for row, told in cases:
            self.assertEqual(row_of(row), told)

    def test_told_examples(self):
        cases = [
            ([-2, 0, 1], [[-2, 0, 1], [0, 1], [1]]),
            ([2, 0, 1], [[2, 0, 1], [0, 1], [-1]]),
            ([2, 0, -1], [[2, 0, -1], [0, -1], [-1]]),
            ([4, 0, -2], [[2, 0, -1], [0, -1], [-1]]),
            ([-1, -1, 0, 1], [[-1, -1, 0, 1], [-1, 0, 3], [3, 2], [-1]]),
            ([0, -1, 0, 1], [[0, -1, 0, 1], [-1, 0, 3], [0, 1], [1]]),
            ([0, 1, 0, -1], [[0, 1, 0, -1], [1, 0, -3], [0, -1], [-1]]),
            ([1, 0, 0, 0, 0, 1], [[1, 0, 0, 0, 0, 1], [0, 0, 0, 0, 1], [-1]]),
        ]
        for row, told in cases:
            with self.subTest(row=row):
                self.assertEqual(row_of(row), told)

    def test_with_squares(self):
        cases = [
            ([0, 0, 1], [[0, 0, 1], [0, 1]]), ([1, 2, 1], [[1, 2, 1], [1, 1]]), ([-2, -4, -2], [[-1, -2, -1], [-1, -1]]),
            ([0, 0, -1, 1], [[0, 0, -1, 1], [0, -2, 3], [0, 1]]),
        ]
        for row, told in cases:
            with self.subTest(row=row):
                self.assertEqual(row_of(row), told)

    def test_beside_fractions(self):
        source = random.Random(31)
        for _ in range(200):
            top = source.choice((2, 9, 10 ** 12))
            row = [source.randrange(-top, top + 1) for _ in range(source.randrange(1, 9))]
            row.append(source.choice((-1, 1)) * source.randrange(1, top + 1))
            self.assertEqual(row_of(row), fraction_row(row))
        for powers in ([1, 2], [0, 3, 0, 1], [2, 0, 2, 0, 1], [0, 0, 1, 0, 0, 3], [1, 1, 1, 1, 1, 1]):
            for factor in (1, -1, -6, 10 ** 30):
                row = built(powers, factor)
                self.assertEqual(row_of(row), fraction_row(row))
        for row in (GREAT, scaled(GREAT, -6), product(GREAT, [1, 0, -1]), [7] + [0] * 11 + [-3]):
            self.assertEqual(row_of(row), fraction_row(row))

    def test_kinds(self):
        said = row_of([-2, 0, 1])
        self.assertIs(type(said), list)
        self.assertTrue(all(type(one) is list for one in said))


class Changes(unittest.TestCase):
    def signs(self, *signs):
        return changes([[sign] if sign else [] for sign in signs], Ratio(3, 7))

    def test_of_none(self):
        self.assertEqual(changes([], Ratio(0)), 0)
        self.assertEqual(changes([[]], Ratio(5)), 0)
        self.assertEqual(changes([[], [], []], Ratio(-5, 2)), 0)

    def test_signs(self):
        cases = [
            ((1,), 0), ((-1,), 0), ((1, 1), 0), ((-1, -1), 0), ((1, -1), 1), ((-1, 1), 1), ((1, -1, 1), 2),
            ((-1, 1, -1, 1), 3), ((1, 1, -1, -1, 1), 2),
        ]
        for signs, told in cases:
            self.assertEqual(self.signs(*signs), told)

    def test_noughts_are_left_out(self):
        cases = [
            ((0, 1, -1), 1), ((0, 1), 0), ((0, -1), 0), ((0, 0, -1, 1), 1), ((1, 0, -1), 1), ((1, 0, 1), 0), ((-1, 0, -1), 0),
            ((-1, 0, 0, 1), 1), ((1, 0, 0, 0, 1), 0), ((1, -1, 0), 1), ((1, 0), 0), ((-1, 1, 0, 0), 1), ((0, 0), 0),
            ((0, 1, 0, -1, 0, 1, 0), 2), ((1, 0, -1, 0, -1, 0, 1), 2),
        ]
        for signs, told in cases:
            with self.subTest(signs=signs):
                self.assertEqual(self.signs(*signs), told)

    def test_polynomials_that_are_nought_there(self):
        row = [[-1, 2], [3], [-1, 0, 4], [-5], [-1, 1]]
        self.assertEqual(changes(row, Ratio(1, 2)), 1)
        self.assertEqual(changes(row, Ratio(1)), 1)
        self.assertEqual(changes(row, Ratio(2)), 2)
        self.assertEqual(changes(row, Ratio(0)), 2)
        self.assertEqual(changes([[-1, 2], [-3], [-1, 0, 4], [5]], Ratio(1, 2)), 1)

    def test_any_list_of_polynomials(self):
        row = [[0, 1], [0, -1], [], [-2, 0, 1], [10 ** 40, -1]]
        self.assertEqual(changes(row, Ratio(1)), 2)
        self.assertEqual(changes(row, Ratio(2)), 2)
        self.assertEqual(changes(row, Ratio(-1)), 3)
        self.assertEqual(changes(row, Ratio(0)), 1)
        self.assertEqual(changes(row, Ratio(10 ** 40 + 1)), 3)


class Count(unittest.TestCase):
    # Roots with what has no real root besides, told by how it was built.
    def samples(self):
        yield [], [[1, 0, 1]]
        yield [], [[3, 1, 1], [1, 0, 0, 0, 1]]
        yield rational(0), []
        yield rational(Fraction(-7, 3)), []
        yield rational(-1, 0, 1), []
        yield rational(Fraction(1, 2), Fraction(2, 3), 5), [[1, 0, 1]]
        yield rational(Fraction(1, 10 ** 20), Fraction(2, 10 ** 20)), []
        yield rational(*range(-4, 5)), []
        yield squares(0, 2), []
        yield squares(Fraction(1, 2), Fraction(5, 4)) + rational(3), []
        yield squares(0, 2) + squares(0, 3) + rational(0), [[3, 1, 1]]

    def points(self, roots):
        found = {Fraction(0), Fraction(1), Fraction(-1), Fraction(3, 2), Fraction(-100), Fraction(100), Fraction(141421356, 10 ** 8)}
        for root in roots:
            for beside in (0, Fraction(1, 10 ** 30), Fraction(-1, 10 ** 30)):
                found.add(root.shift + beside)
        return sorted(found)

    def test_roots_above_low_and_not_above_high(self):
        for roots, others in self.samples():
            for factor in (1, -1, 6, -15):
                row = row_of(scaled(row_with(roots, others), factor))
                points = self.points(roots)
                for low in points:
                    for high in points:
                        if low < high:
                            told = sum(root.within(low, high) for root in roots)
                            self.assertEqual(count(row, ratio(low), ratio(high)), told, (row, low, high))

    def test_low_that_is_not_less(self):
        row = row_of([0, -1, 0, 1])
        self.assertEqual(count(row, Ratio(2), Ratio(-2)), -3)
        self.assertEqual(count(row, Ratio(1), Ratio(0)), -1)
        self.assertEqual(count(row, Ratio(1, 2), Ratio(1, 3)), 0)
        for at in (-2, -1, 0, 1, 2):
            self.assertEqual(count(row, Ratio(at), Ratio(at)), 0)
        for roots, others in self.samples():
            row = row_of(row_with(roots, others))
            points = self.points(roots)
            for low, high in zip(points, reversed(points)):
                self.assertEqual(count(row, ratio(low), ratio(high)), -count(row, ratio(high), ratio(low)))

    def test_a_root_that_is_low_does_not_count_and_one_that_is_high_does(self):
        row = row_of([-1, 2])
        half = Ratio(1, 2)
        self.assertEqual(count(row, Ratio(0), half), 1)
        self.assertEqual(count(row, half, Ratio(1)), 0)
        self.assertEqual(count(row, Ratio(0), Ratio(1)), 1)
        row = row_of([0, -1, 0, 1])
        self.assertEqual(count(row, Ratio(-1), Ratio(1)), 2)
        self.assertEqual(count(row, Ratio(-1), Ratio(0)), 1)
        self.assertEqual(count(row, Ratio(0), Ratio(1)), 1)

    def test_of_nought_constants_and_other_rows(self):
        for row in ([], row_of([5]), row_of([-5])):
            self.assertEqual(count(row, Ratio(-3), Ratio(3)), 0)
        other = [[1], [0, 1], [-1, 1]]
        self.assertEqual(count(other, Ratio(-1), Ratio(2)), 1)
        self.assertEqual(count(other, Ratio(2), Ratio(-1)), -1)
        self.assertEqual(count(other, Ratio(2), Ratio(1, 2)), -1)

    def test_cube_roots(self):
        root = Known(0, 1, 2, 3)
        row = row_of(root.row())
        near = Fraction(125992104989487316476, 10 ** 20)
        self.assertEqual(root.row(), [-2, 0, 0, 1])
        self.assertEqual(count(row, ratio(near), ratio(near + Fraction(1, 10 ** 20))), 1)
        self.assertEqual(count(row, ratio(near + Fraction(1, 10 ** 20)), Ratio(2)), 0)
        self.assertEqual(count(row, Ratio(-2), ratio(near)), 0)


class NothingIsShared(unittest.TestCase):
    def test_row_of(self):
        for row in ([], [1], [-6], [0, 1], [4, -6], [-2, 0, 1], [0, 0, -1, 1], [-1, -1, 0, 1]):
            look_at_sharing(self, row_of, lambda: [list(row)])

    def test_changes_and_count(self):
        for rows in ([], [[]], [[1], [-1]], [[-2, 0, 1], [0, 1], [1]], [[0, 1], [], [3]]):
            look_at_sharing(self, changes, lambda: [[list(row) for row in rows], Ratio(1, 2)])
            look_at_sharing(self, count, lambda: [[list(row) for row in rows], Ratio(-1), Ratio(5, 2)])

    def test_ratios_stay(self):
        low, high = Ratio(-3, 2), Ratio(4)
        count(row_of([-2, 0, 1]), low, high)
        self.assertEqual((low.top, low.bottom, high.top, high.bottom), (-3, 2, 4, 1))


if __name__ == "__main__":
    unittest.main()
