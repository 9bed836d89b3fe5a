import random
import unittest
from fractions import Fraction

from helpers import GREAT, Known, look_at_sharing, product, ratio, rational, row_with, scaled, span, squares
from rootspan.cells import bound, cells, narrowed
from rootspan.polys import plain
from rootspan.ratios import Ratio

SIXTY = 10 ** 59 + 7


class Bound(unittest.TestCase):
    def test_told_examples(self):
        cases = [
            ([1, 1], 2), ([-1, 1], 2), ([2, 1], 4), ([-2, 0, 1], 4), ([1, 2], 2), ([1, 5], 2), ([5, 1], 8), ([7, 1], 8),
            ([8, 1], 16), ([0, -9, 0, 1], 16), ([100, 0, -1, 3], 64),
        ]
        for row, told in cases:
            with self.subTest(row=row):
                self.assertEqual(bound(row), told)

    def test_no_other_coefficient_but_nought(self):
        for row in ([5], [-5], [1], [-SIXTY], [0, 1], [0, -7], [0, 0, 0, 4], [0, 0, -SIXTY]):
            self.assertEqual(bound(row), 1)

    def test_just_reached_and_just_missed(self):
        for last in (1, -1, 2, -3, SIXTY, -SIXTY):
            for power in (2, 4, 8, 64, 2 ** 70):
                reach = (power - 1) * abs(last)
                for sign in (1, -1):
                    self.assertEqual(bound([sign * reach, last]), power)
                    self.assertEqual(bound([0, sign * reach, 1, last]), power)
                    self.assertEqual(bound([sign * (reach + 1), last]), 2 * power)
                    self.assertEqual(bound([sign * reach, -sign * (reach + 1), last]), 2 * power)
                    self.assertEqual(bound([sign * reach, reach - 1, 0, last]), power)

    def test_by_its_sentence(self):
        source = random.Random(41)
        for _ in range(300):
            top = source.choice((5, 1000, 10 ** 60))
            row = [source.randrange(-top, top + 1) for _ in range(source.randrange(1, 9))] + [source.choice((-1, 1)) * source.randrange(1, top)]
            said = bound(row)
            greatest = max(abs(c) for c in row[:-1])
            self.assertIs(type(said), int)
            self.assertEqual(said & (said - 1), 0)
            self.assertGreaterEqual((said - 1) * abs(row[-1]), greatest)
            self.assertTrue(said == 1 or (said // 2 - 1) * abs(row[-1]) < greatest)


# The cells as the promise tells them, of roots that are known.
def known_cells(roots, low, high):
    inside = [root for root in roots if root.within(low, high)]
    if len(inside) < 2:
        return [(low, high)] * len(inside)
    cut = (low + high) / 2
    return known_cells(inside, low, cut) + known_cells(inside, cut, high)


def known_narrowed(root, low, high, width):
    while high - low > width:
        cut = (low + high) / 2
        low, high = (low, cut) if root.within(low, cut) else (cut, high)
    return (low, high)


def bound_of(row):
    size = 1
    while (size - 1) * abs(row[-1]) < max(abs(c) for c in row[:-1]):
        size *= 2
    return size


NEAR = Fraction(1, 10 ** 20)
SAMPLES = [
    (rational(0), []), (rational(5), []), (rational(Fraction(-7, 3)), [[1, 0, 1]]), (squares(0, 2), []),
    (rational(-1, 0, 1), []), (rational(0, 1), []), (rational(-1, 0), []), (rational(1, 2, 3, 4), []),
    (rational(-2, -1, 0, 1, 2), []), (rational(Fraction(1, 2), Fraction(1, 4), Fraction(3, 4)), []),
    (rational(Fraction(-1, 2), Fraction(1, 2), 0), [[3, 1, 1]]), (rational(Fraction(1, 8), Fraction(3, 8), Fraction(-5, 8)), []),
    (rational(1, 1 + NEAR), []), (rational(0, NEAR), []), (rational(-NEAR, 0), []), (rational(NEAR, NEAR + NEAR ** 2), []),
    (rational(Fraction(1, 3), Fraction(1, 3) + Fraction(1, 10 ** 6), Fraction(1, 3) + Fraction(2, 10 ** 6)), []),
    (squares(0, 2) + squares(0, 3), []), (squares(0, 2) + rational(0, Fraction(14142135623, 10 ** 10)), []),
    (squares(1, Fraction(1, 10 ** 30) * 2), []), (squares(0, 2) + squares(0, 2 + NEAR), [[1, 0, 1]]),
    ([Known(0, 1, 2, 3)], []), ([Known(Fraction(1, 2), -1, 7, 3)] + squares(0, 5), []),
    (rational(*range(-6, 7)), []), (rational(2, 4, 8, 16, 32, 64), []),
]


class Cells(unittest.TestCase):
    def test_nought_and_constants(self):
        for row in ([], [1], [-1], [6], [-SIXTY]):
            self.assertEqual(cells(row), [])

    def test_no_real_roots(self):
        for row in ([1, 0, 1], [3, 1, 1], [-3, -1, -1], [1, 0, 0, 0, 1], product([1, 0, 1], [2, 0, 1], [5, 0, 3])):
            self.assertEqual(cells(row), [])

    def test_told_examples(self):
        cases = [
            ([0, 1], [(-1, 1)]), ([0, -3], [(-1, 1)]), ([1, 1], [(-2, 2)]), ([-2, 0, 1], [(-4, 0), (0, 4)]),
            ([4, 0, -2], [(-4, 0), (0, 4)]), ([0, -1, 1], [(-2, 0), (0, 2)]), ([0, 1, 1], [(-2, -1), (-1, 0)]),
            ([-1, -1, 0, 1], [(-2, 2)]), ([0, -1, 0, 1], [(-2, -1), (-1, 0), (0, 2)]),
            ([6, -11, 6, -1], [(0, 1), (1, 2), (2, 4)]),
        ]
        for row, told in cases:
            with self.subTest(row=row):
                self.assertEqual([span(cell) for cell in cells(row)], told)

    def test_by_known_roots(self):
        for roots, others in SAMPLES:
            row = row_with(roots, others)
            size = Fraction(bound_of(row))
            told = known_cells(roots, -size, size)
            self.assertEqual(len(told), len(roots))
            for factor in (1, -1, 6, -35):
                said = cells(scaled(row, factor))
                self.assertEqual([span(cell) for cell in said], told, row)

    def test_kinds(self):
        said = cells([0, -1, 0, 1])
        self.assertIs(type(said), list)
        for cell in said:
            self.assertIs(type(cell), tuple)
            self.assertEqual([type(end) for end in cell], [Ratio, Ratio])

    def test_great_ones(self):
        roots = rational(Fraction(SIXTY, 3), Fraction(-SIXTY, 7), Fraction(3, SIXTY), Fraction(-7, SIXTY))
        row = row_with(roots)
        size = Fraction(bound_of(row))
        self.assertEqual([span(cell) for cell in cells(row)], known_cells(sorted(roots, key=lambda root: root.shift), -size, size))

    def test_many_roots_drawn(self):
        source = random.Random(42)
        for _ in range(60):
            shifts = sorted({Fraction(source.randrange(-40, 41), source.choice((1, 2, 3, 4, 8, 16))) for _ in range(source.randrange(1, 7))})
            roots = rational(*shifts)
            row = scaled(row_with(roots, [[1, 0, 1]] if source.random() < 0.3 else []), source.choice((-2, 1)))
            size = Fraction(bound_of(row))
            self.assertEqual([span(cell) for cell in cells(row)], known_cells(roots, -size, size), shifts)


class Narrowed(unittest.TestCase):
    def look(self, row, root, low, high, width):
        said = narrowed(row, ratio(low), ratio(high), ratio(width))
        self.assertIs(type(said), tuple)
        self.assertEqual([type(end) for end in said], [Ratio, Ratio])
        self.assertEqual(span(said), known_narrowed(root, Fraction(low), Fraction(high), Fraction(width)), (row, low, high, width))

    def test_told_examples(self):
        cases = [
            ([-2, 0, 1], 1, 2, Fraction(1, 4), (Fraction(5, 4), Fraction(3, 2))), ([-2, 0, 1], 0, 4, 1, (1, 2)),
            ([-2, 0, 1], -4, 0, 1, (-2, -1)), ([-1, 2], 0, 1, Fraction(1, 4), (Fraction(1, 4), Fraction(1, 2))),
            ([-1, 1], 0, 1, Fraction(1, 4), (Fraction(3, 4), 1)), ([0, 1], -1, 1, Fraction(1, 2), (Fraction(-1, 2), 0)),
            ([0, -1], -1, 1, Fraction(1, 2), (Fraction(-1, 2), 0)),
        ]
        for row, low, high, width, told in cases:
            with self.subTest(row=row, low=low, high=high):
                self.assertEqual(span(narrowed(row, ratio(low), ratio(high), ratio(width))), told)

    def test_narrow_enough(self):
        for row, low, high in (([-2, 0, 1], 1, 2), ([-2, 0, 1], Fraction(-3, 2), Fraction(-7, 5)), ([0, 1], -3, 0), ([-1, 3], 0, 1)):
            for more in (0, Fraction(1, 10 ** 9), 1, 10 ** 30):
                self.assertEqual(span(narrowed(row, ratio(low), ratio(high), ratio(high - low + more))), (low, high))

    def test_width_just_reached_and_just_missed(self):
        root = squares(0, 2)[1]
        for k in range(8):
            width = Fraction(3, 2 ** k)
            for near in (0, Fraction(1, 10 ** 12), Fraction(-1, 10 ** 12)):
                self.look([-2, 0, 1], root, 0, 3, width + near)
                self.look([2, 0, -1], root, Fraction(1, 3), Fraction(10, 3), width + near)
        self.assertEqual(span(narrowed([-2, 0, 1], Ratio(0), Ratio(3), Ratio(3, 2))), (0, Fraction(3, 2)))
        said = span(narrowed([-2, 0, 1], Ratio(0), Ratio(3), ratio(Fraction(3, 2) - Fraction(1, 10 ** 50))))
        self.assertEqual(said, (Fraction(3, 4), Fraction(3, 2)))

    def test_roots_on_a_cut_and_at_the_high(self):
        for at in (Fraction(1, 2), Fraction(1, 4), Fraction(3, 4), Fraction(5, 8), Fraction(1), Fraction(1, 1024)):
            for width in (1, Fraction(1, 2), Fraction(1, 3), Fraction(1, 4), Fraction(1, 5), Fraction(1, 64), Fraction(1, 10 ** 6)):
                for row in ([-at.numerator, at.denominator], [at.numerator, -at.denominator]):
                    self.look(row, Known(at), 0, 1, width)
                    self.look(scaled(product(row, [1, 0, 1]), 3), Known(at), 0, 1, width)

    def test_low_that_is_another_root(self):
        for at in (Fraction(1, 2), Fraction(1, 3), Fraction(1), Fraction(1, 1000), Fraction(3, 4)):
            for width in (1, Fraction(1, 2), Fraction(1, 7), Fraction(1, 10 ** 6)):
                row = product([0, 1], [-at.numerator, at.denominator])
                self.look(row, Known(at), 0, 1, width)
                self.look(scaled(row, -2), Known(at), 0, 1, width)
        root = squares(0, 2)[1]
        self.look(product([-1, 1], [-2, 0, 1]), root, 1, 2, Fraction(1, 10 ** 9))
        self.look(product([1, -1], [-2, 0, 1], [-3, 1]), root, 1, 2, Fraction(1, 10 ** 9))

    def test_other_roots_near_the_ends(self):
        row = product([-1, 1], [-2, 1], [-3, 1], [-4, 1])
        self.look(row, Known(2), 1, 2, Fraction(1, 100))
        self.look(row, Known(3), 2, 3, Fraction(1, 100))
        self.look(row, Known(3), 2, Fraction(399, 100), Fraction(1, 100))
        self.look(row, Known(2), Fraction(101, 100), Fraction(299, 100), Fraction(1, 100))

    def test_roots_that_are_fractions_and_that_are_not(self):
        widths = [Fraction(1), Fraction(1, 3), Fraction(1, 10 ** 10), Fraction(7, 10 ** 40)]
        for roots, others in SAMPLES:
            row = row_with(roots, others)
            size = Fraction(bound_of(row))
            for low, high in known_cells(roots, -size, size):
                root = [one for one in roots if one.within(low, high)][0]
                for width in widths:
                    self.look(row, root, low, high, width)
                    self.look(scaled(row, -14), root, low, high, width)

    def test_small_widths(self):
        small = Fraction(1, 10 ** 120)
        self.look([-2, 0, 1], squares(0, 2)[1], 1, 2, small)
        self.look([-1, 3], Known(Fraction(1, 3)), Fraction(-1, 7), 10 ** 20, small)
        self.look([-2, 0, 0, 1], Known(0, 1, 2, 3), 0, Fraction(10 ** 40, 3), small)
        self.look([1, 0, -1], Known(-1), -10 ** 9, 0, Fraction(3, 10 ** 250))

    def test_great_ones(self):
        at = Fraction(-GREAT[0], GREAT[3])
        row = [GREAT[0], GREAT[3]]
        self.look(row, Known(at), -1, 0, Fraction(1, 10 ** 50))
        self.look(scaled(product(row, [3, 1, 1]), -SIXTY), Known(at), -5, Fraction(1, 3), Fraction(1, 10 ** 50))
        self.assertEqual(plain(row), row)


class NothingIsShared(unittest.TestCase):
    def test_bound_and_cells(self):
        for row in ([1], [-6], [0, 1], [4, -6], [-2, 0, 1], [0, -1, 0, 1], [1, 0, 1]):
            look_at_sharing(self, bound, lambda: [list(row)])
            look_at_sharing(self, cells, lambda: [list(row)])
        look_at_sharing(self, cells, lambda: [[]])

    def test_narrowed(self):
        for width in (Ratio(5), Ratio(1, 100)):
            look_at_sharing(self, narrowed, lambda: [[-2, 0, 1], Ratio(0), Ratio(3), width])
        low, high, width = Ratio(0), Ratio(3), Ratio(1, 100)
        narrowed([-2, 0, 1], low, high, width)
        self.assertEqual([(r.top, r.bottom) for r in (low, high, width)], [(0, 1), (3, 1), (1, 100)])


if __name__ == "__main__":
    unittest.main()
