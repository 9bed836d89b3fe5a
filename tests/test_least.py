import random
import unittest
from fractions import Fraction

from helpers import Known, line, look_at_sharing, plain_of, product, ratio, rational, row_with, scaled, squares
from rootspan.least import least
from rootspan.ratios import Ratio

NEAR = Fraction(1, 10 ** 20)
CUBE = [Known(0, 1, 2, 3)]
# No product of two polynomials: all their roots are of degree three, four, five, six.
NO_PRODUCTS = [
    ([1, -3, 0, 1], [(-2, -1), (0, 1), (1, 2)]), ([-2, 0, 0, 1], [(1, 2)]), ([1, 0, -10, 0, 1], [(-4, -2), (-2, 0), (0, 2), (2, 4)]),
    ([2, 0, -4, 0, 1], [(-2, -1), (-1, 0), (0, 1), (1, 2)]), ([-2, 0, 0, 0, 1], [(-2, 0), (0, 2)]),
    ([3, -6, 0, 0, 0, 1], [(-2, -1), (0, 1), (1, 2)]), ([-5, 0, 0, 0, 0, 0, 3], [(-2, 0), (0, 2)]),
]


# Spans with the one root alone: wide ones, narrow ones, with the root or another one at an end where it is a fraction.
def spans_of(root, roots):
    reach = Fraction(10 ** 20)
    low, high = -reach, reach
    for other in roots:
        if other is not root:
            at = Fraction(0)
            lower, upper = -reach, reach
            while root.above(at) == other.above(at):
                lower, upper = (at, upper) if root.above(at) else (lower, at)
                at = (lower + upper) / 2
            if root.above(at):
                low = max(low, at)
            else:
                high = min(high, at)
    found = [(low, high)]
    if root.way == 0:
        found += [(low, root.shift), ((low + root.shift) / 2, root.shift)]
    for other in roots:
        if other.way == 0 and other is not root and not any(one.within(other.shift, high) for one in roots if one is not root):
            if root.within(other.shift, high):
                found.append((other.shift, high))
    return found


class Least(unittest.TestCase):
    def look(self, row, low, high, told):
        said = least(row, ratio(low), ratio(high))
        self.assertIs(type(said), list)
        self.assertEqual(said, told, (row, low, high))

    # A fraction's line, a square root's row, else the whole polynomial.
    def look_at_all(self, roots, others=(), factors=(1, -6)):
        row = row_with(roots, others)
        for root in roots:
            for factor in factors:
                told = plain_of(root.row()) if len(root.row()) <= 3 else plain_of(row)
                for low, high in spans_of(root, roots):
                    self.look(scaled(row, factor), low, high, told)

    def test_told_examples(self):
        cases = [
            ([0, 1], -1, 1, [0, 1]), ([4, -6], 0, 1, [-2, 3]), ([-1, 0, 1], 0, 5, [-1, 1]), ([-1, 0, 1], -5, 0, [1, 1]),
            ([-2, 0, 1], 0, 2, [-2, 0, 1]), ([4, 0, -2], 0, 2, [-2, 0, 1]), ([0, -2, 0, 1], 0, 2, [-2, 0, 1]),
            ([0, -2, 0, 1], -1, 0, [0, 1]), ([0, -2, 0, 1], -1, 1, [0, 1]), ([1, -2, 0, 1], 0, Fraction(3, 4), [-1, 1, 1]),
            ([6, 0, -5, 0, 1], 1, Fraction(3, 2), [-2, 0, 1]), ([6, 0, -5, 0, 1], Fraction(3, 2), 2, [-3, 0, 1]),
            ([1, 0, -10, 0, 1], 2, 4, [1, 0, -10, 0, 1]), ([-2, 0, 0, 1], 1, 2, [-2, 0, 0, 1]), ([2, 0, 0, -1], 1, 2, [-2, 0, 0, 1]),
            ([0, -2, 0, 0, 1], 0, 2, [0, -2, 0, 0, 1]), ([-4, 0, 0, 0, 1], 0, 2, [-2, 0, 1]), ([-2, 0, 0, 0, 1], 0, 2, [-2, 0, 0, 0, 1]),
        ]
        for row, low, high, told in cases:
            with self.subTest(row=row, low=low, high=high):
                self.look(row, low, high, told)

    def test_fractions(self):
        for root in (0, 1, -1, Fraction(1, 2), Fraction(-7, 3), 10 ** 5, Fraction(-1, 10 ** 5)):
            self.look_at_all(rational(root), (), (1, -1, 6, -35))
            self.look_at_all(rational(root), [[1, 0, 1]])
            self.look_at_all(rational(root, Fraction(3, 7)))
            self.look_at_all(rational(root, Fraction(3, 7), -5) + squares(0, 2))
            self.look_at_all(rational(root) + CUBE, [[3, 1, 1]])
            self.look_at_all(rational(root) + squares(Fraction(1, 2), Fraction(5, 4)) + CUBE)

    def test_degree_two(self):
        for shift, below in ((0, 2), (0, Fraction(1, 2)), (Fraction(1, 2), Fraction(5, 4)), (-3, 7), (Fraction(5, 3), Fraction(3, 7)), (0, 10 ** 9 + 7)):
            roots = squares(shift, below)
            self.look_at_all(roots, (), (1, -1, 6, -35))
            self.look_at_all(roots + rational(Fraction(3, 7)), (), (1, -1, 6, -35))
            self.look_at_all(roots + rational(Fraction(3, 7), Fraction(-3, 7), 11))
            self.look_at_all(roots, [[1, 0, 1]])
            self.look_at_all(roots + squares(0, 3))
            self.look_at_all(roots + squares(1, 3) + rational(0))
            self.look_at_all(roots + CUBE)
            self.look_at_all(roots + CUBE + rational(0))
            self.look_at_all(roots + squares(1, 3) + squares(Fraction(2, 3), 11))

    def test_roots_near_one_another(self):
        self.look_at_all(rational(1, 1 + NEAR) + squares(0, 2))
        self.look_at_all(squares(0, 2) + squares(0, 2 + NEAR))
        self.look_at_all(squares(0, 2) + rational(Fraction(141421356237309504880, 10 ** 20), 0))
        self.look_at_all(CUBE + rational(Fraction(125992104989487316476, 10 ** 20)))
        self.look_at_all(squares(1, 2 * NEAR * NEAR) + rational(1))
        self.look_at_all(squares(0, 2) + [Known(0, 1, 2 * Fraction(141421356237309504880, 10 ** 20), 3)])

    def test_no_product_of_two(self):
        for row, spans in NO_PRODUCTS:
            for low, high in spans:
                for factor in (1, -1, 10):
                    self.look(scaled(row, factor), low, high, row)
        for row, spans in NO_PRODUCTS[:3]:
            for other in ([-7, 1], [1, 0, 1], [-5, 0, 1], [7, 0, 0, 1]):
                low, high = spans[1] if len(spans) > 1 else spans[0]
                full = product(row, other)
                self.look(scaled(full, -2), low, high, full)

    def test_degree_two_in_degrees_up_to_eight(self):
        golden = squares(Fraction(1, 2), Fraction(5, 4))
        for others in ([[1, -3, 0, 1]], [[1, 0, -10, 0, 1]], [[3, -6, 0, 0, 0, 1]], [[-5, 0, 0, 0, 0, 0, 3]], [[1, 0, 0, 0, 1], [3, 1, 1]]):
            row = product(golden[0].row(), *others)
            near = Fraction(1618033988, 10 ** 9)
            self.look(row, near, near + Fraction(1, 10 ** 9), [-1, -1, 1])
            self.look(scaled(row, -6), -near + 1 - Fraction(1, 10 ** 9), -near + 1, [-1, -1, 1])

    def test_low_that_is_a_root_and_high_that_is(self):
        row = product([0, 1], [-1, 1], [-2, 0, 1], [-2, 0, 0, 1])
        self.look(row, 0, 1, [-1, 1])
        self.look(row, -1, 0, [0, 1])
        self.look(row, 1, Fraction(4, 3), row)
        self.look(row, Fraction(4, 3), 2, [-2, 0, 1])
        row = product([0, 1], [-2, 0, 1], [-5, 1])
        self.look(row, 0, 2, [-2, 0, 1])
        self.look(row, 2, 5, [-5, 1])
        self.look(row, -2, -1, [-2, 0, 1])
        row = product([1, 2], [-1, 3], [5, 0, 1])
        self.look(row, Fraction(-1, 2), Fraction(1, 3), [-1, 3])
        self.look(row, -1, Fraction(-1, 2), [1, 2])

    def test_drawn_ones(self):
        source = random.Random(71)
        for _ in range(60):
            shifts = {Fraction(source.randrange(-9, 10), source.randrange(1, 6)) for _ in range(source.randrange(0, 4))}
            roots = rational(*shifts)
            for below in source.sample((2, 3, Fraction(5, 7), 13), source.randrange(0, 3)):
                roots += squares(Fraction(source.randrange(-4, 5), source.randrange(1, 4)), below)
            if source.random() < 0.4:
                roots += [Known(source.randrange(-2, 3), 1, source.choice((2, 5)), 3)]
            if len(roots) > 0:
                self.look_at_all(roots, [[1, 0, 1]] if source.random() < 0.3 else [])

    def test_great_roots_with_great_bottoms(self):
        source = random.Random(72)
        for _ in range(30):
            bottom = source.randrange(1, 10 ** 6)
            shift = Fraction(source.randrange(-1000 * bottom, 1000 * bottom), bottom)
            below = Fraction(3 * source.randrange(1, 10 ** 4) ** 2, source.randrange(1, 10 ** 3) ** 2)
            roots = squares(shift, below)
            if source.random() < 0.5:
                self.look_at_all(roots + rational(Fraction(source.randrange(1, 10 ** 9), 10 ** 3 + 9)), (), (1,))
            else:
                self.look_at_all(roots + [Known(source.randrange(-1000, 1000), 1, 2, 3)], (), (-1,))

    def test_great_ones(self):
        big = 10 ** 59 + 7
        root = Fraction(-big, big + 2)
        row = product(line(root), [-2, 0, 0, 1])
        self.look(scaled(row, -big), -1, 0, line(root))
        square = [-big - 4, 3, big + 60]
        self.look(product(square, [-2, 0, 0, big]), Fraction(1, 2), 10 ** 70, square)
        self.look(product(square, [-2, 1], [5, 1]), -4, 0, square)
        self.look(product([-2 * big - 1, 0, 0, big], [1, 0, 1]), 0, 2, product([-2 * big - 1, 0, 0, big], [1, 0, 1]))

    def test_nothing_is_shared(self):
        for row, low, high in (([4, -6], 0, 1), ([4, 0, -2], 0, 2), ([0, -2, 0, 1], 1, 2), ([0, -2, 0, 1], -1, 1), ([-2, 0, 0, 1], 0, 2)):
            look_at_sharing(self, least, lambda: [list(row), Ratio(low), Ratio(high)])
        low, high = Ratio(1, 2), Ratio(5, 3)
        row = [-2, 0, 0, 1]
        least(row, low, high).append(5)
        self.assertEqual(row, [-2, 0, 0, 1])
        self.assertEqual((low.top, low.bottom, high.top, high.bottom), (1, 2, 5, 3))


if __name__ == "__main__":
    unittest.main()
