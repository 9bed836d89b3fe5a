import random
import unittest
from fractions import Fraction
from math import comb, lcm

from helpers import GREAT, PRIMES, built, by_fractions, line, look_at_sharing, plain_of, product, scaled
from rootspan.resultants import powers, products, resultant, sums


def by_its_rows(row, other):
    m, n = len(row) - 1, len(other) - 1
    rows = [[0] * k + row[::-1] + [0] * (n - 1 - k) for k in range(n)]
    return by_fractions(rows + [[0] * k + other[::-1] + [0] * (m - 1 - k) for k in range(m)])


class Resultant(unittest.TestCase):
    def test_told_examples(self):
        cases = [
            ([3, 2], [7, 5], 2 * 7 - 3 * 5), ([7, 5], [3, 2], 3 * 5 - 2 * 7), ([-2, 0, 1], [-3, 0, 1], 1), ([-2, 0, 1], [-1, 1], -1),
            ([-1, 1], [-2, 0, 1], -1), ([1, 0, 1], [-5, 2], 29), ([-5, 2], [1, 0, 1], 29), ([0, 1], [5, 1], 5), ([5, 1], [0, 1], -5),
            ([1, -1], [2, -3], 1), ([2, -3], [1, -1], -1), ([-1, -1, 0, 1], [-1, 0, 3], 23),
        ]
        for row, other, told in cases:
            with self.subTest(row=row, other=other):
                self.assertEqual(resultant(row, other), told)

    def test_constants(self):
        for one in (1, -1, 5, -7, 10 ** 40):
            for other in (1, -1, 4, -3):
                self.assertEqual(resultant([one], [other]), 1)
            for row in ([1, 2], [0, 0, -3], [4, 1, 0, 5], GREAT, [1] * 9):
                self.assertEqual(resultant([one], row), one ** (len(row) - 1))
                self.assertEqual(resultant(row, [one]), one ** (len(row) - 1))

    def test_nought(self):
        for row in ([], [1], [-5], [1, 2], [0, 0, -3], GREAT):
            self.assertEqual(resultant(row, []), 0)
            self.assertEqual(resultant([], row), 0)

    def test_common_part(self):
        source = random.Random(61)
        for prime in PRIMES[:8] + [GREAT]:
            for _ in range(6):
                ours = scaled(product(prime, source.choice(PRIMES[:8])), source.choice((1, -1, 6)))
                theirs = scaled(product(source.choice(PRIMES[:8]), prime), source.choice((1, -1, -10)))
                self.assertEqual(resultant(ours, theirs), 0)
                self.assertEqual(resultant(prime, theirs), 0)

    def test_none_but_a_constant_in_common(self):
        for one in PRIMES:
            for other in PRIMES:
                if one != other:
                    self.assertNotEqual(resultant(scaled(one, -2), scaled(other, 6)), 0)

    def test_by_roots(self):
        source = random.Random(62)
        for _ in range(120):
            ours = [Fraction(source.randrange(-9, 10), source.randrange(1, 5)) for _ in range(source.randrange(1, 6))]
            theirs = [Fraction(source.randrange(-9, 10), source.randrange(1, 5)) for _ in range(source.randrange(1, 6))]
            row = scaled(product(*[line(root) for root in ours]), source.choice((1, -1, 3)))
            other = scaled(product(*[line(root) for root in theirs]), source.choice((1, -1, -2)))
            told = Fraction(row[-1]) ** len(theirs) * Fraction(other[-1]) ** len(ours)
            for one in ours:
                for another in theirs:
                    told *= one - another
            self.assertEqual(resultant(row, other), told)
            self.assertEqual(resultant(other, row), (-1) ** (len(ours) * len(theirs)) * told)

    def test_by_its_rows(self):
        source = random.Random(63)
        for _ in range(80):
            m = source.randrange(0, 9)
            n = source.randrange(0, 9)
            top = source.choice((3, 10 ** 30))
            row = [source.randrange(-top, top + 1) for _ in range(m)] + [source.choice((-2, -1, 1, 3))]
            other = [source.randrange(-top, top + 1) for _ in range(n)] + [source.choice((-3, -1, 1, 2))]
            said = resultant(row, other)
            self.assertIs(type(said), int)
            self.assertEqual(said, by_its_rows(row, other))
            self.assertEqual(resultant(other, row), -said if m * n % 2 else said)
        for m, n in ((8, 8), (1, 15), (15, 1), (16, 0), (5, 11)):
            row, other = [k - 4 for k in range(m)] + [-3], [7 - 2 * k for k in range(n)] + [-2]
            self.assertEqual(resultant(row, other), by_its_rows(row, other))


# The polynomials by another way than the program's: sums of like powers of the roots.
def power_sums(row, many):
    monic = [Fraction(c, row[-1]) for c in row[::-1]]
    m = len(row) - 1
    found = [Fraction(m)]
    for k in range(1, many + 1):
        term = -sum((monic[j] * found[k - j] for j in range(1, min(k, m + 1)) if j <= m), Fraction(0))
        if k <= m:
            term -= k * monic[k]
        found.append(term)
    return found


def with_power_sums(sizes):
    monic = [Fraction(1)]
    for k in range(1, len(sizes)):
        monic.append(-sum((monic[k - j] * sizes[j] for j in range(1, k + 1)), Fraction(0)) / k)
    size = lcm(*[c.denominator for c in monic])
    return plain_of([int(c * size) for c in monic[::-1]])


def known_sums(row, other):
    many = (len(row) - 1) * (len(other) - 1)
    ours, theirs = power_sums(row, many), power_sums(other, many)
    return with_power_sums([sum(comb(k, j) * ours[j] * theirs[k - j] for j in range(k + 1)) for k in range(many + 1)])


def known_products(row, other):
    many = (len(row) - 1) * (len(other) - 1)
    return with_power_sums([one * another for one, another in zip(power_sums(row, many), power_sums(other, many))])


def known_powers(row, k):
    many = len(row) - 1
    return with_power_sums(power_sums(row, many * k)[::k])


def of_roots(roots):
    return product(*[line(root) for root in roots])


class SumsProductsPowers(unittest.TestCase):
    def test_degree_one(self):
        cases = [
            ([-2, 1], [-3, 1], [-5, 1], [-6, 1]), ([-1, 2], [-1, 3], [-5, 6], [-1, 6]), ([1, 2], [-1, 2], [0, 1], [1, 4]),
            ([0, 1], [-7, 3], [-7, 3], [0, 1]), ([0, 5], [0, -2], [0, 1], [0, 1]), ([6, -4], [10, -4], [-4, 1], [-15, 4]),
        ]
        for row, other, added, multiplied in cases:
            with self.subTest(row=row, other=other):
                self.assertEqual(sums(row, other), added)
                self.assertEqual(products(row, other), multiplied)

    def test_told_examples(self):
        self.assertEqual(sums([-2, 0, 1], [-3, 0, 1]), [1, 0, -10, 0, 1])
        self.assertEqual(products([-2, 0, 1], [-3, 0, 1]), [36, 0, -12, 0, 1])
        self.assertEqual(sums([-2, 0, 1], [-2, 0, 1]), [0, 0, -8, 0, 1])
        self.assertEqual(products([-2, 0, 1], [-2, 0, 1]), [16, 0, -8, 0, 1])
        self.assertEqual(sums([1, 0, 1], [1, 0, 1]), [0, 0, 4, 0, 1])
        self.assertEqual(products([1, 0, 1], [1, 0, 1]), [1, 0, -2, 0, 1])
        self.assertEqual(sums([-2, 0, 1], [-1, 1]), [-1, -2, 1])
        self.assertEqual(products([-2, 0, 1], [0, 1]), [0, 0, 1])
        self.assertEqual(products([0, 1], [-2, 0, 1]), [0, 0, 1])
        self.assertEqual(powers([-2, 0, 1], 1), [-2, 0, 1])
        self.assertEqual(powers([-2, 0, 1], 2), [4, -4, 1])
        self.assertEqual(powers([-2, 0, 1], 3), [-8, 0, 1])
        self.assertEqual(powers([1, 0, 1], 2), [1, 2, 1])
        self.assertEqual(powers([-1, 2], 3), [-1, 8])
        self.assertEqual(powers([1, -2], 2), [-1, 4])
        self.assertEqual(powers([0, 0, 1], 5), [0, 0, 1])

    def test_by_fractions_as_roots(self):
        source = random.Random(64)
        pool = [Fraction(0), Fraction(0), Fraction(1), Fraction(-1), Fraction(2), Fraction(-3, 2), Fraction(1, 2), Fraction(5, 3)]
        for m, n in ((1, 1), (1, 2), (2, 1), (2, 2), (1, 5), (3, 2), (3, 3), (3, 4), (4, 3), (2, 6), (6, 2), (12, 1), (1, 12)):
            for _ in range(4):
                ours = [source.choice(pool) for _ in range(m)]
                theirs = [source.choice(pool) for _ in range(n)]
                row = scaled(of_roots(ours), source.choice((1, -1, 6)))
                other = scaled(of_roots(theirs), source.choice((1, -1, -10)))
                self.assertEqual(sums(row, other), of_roots([one + another for one in ours for another in theirs]))
                self.assertEqual(products(row, other), of_roots([one * another for one in ours for another in theirs]))

    def test_powers_by_fractions_as_roots(self):
        source = random.Random(65)
        pool = [Fraction(0), Fraction(1), Fraction(-1), Fraction(2), Fraction(-2), Fraction(-3, 2), Fraction(1, 2), Fraction(5, 3)]
        for m in range(1, 9):
            for k in range(1, 9):
                ours = [source.choice(pool) for _ in range(m)]
                row = scaled(of_roots(ours), source.choice((1, -1, 6)))
                self.assertEqual(powers(row, k), of_roots([one ** k for one in ours]))

    def test_beside_sums_of_like_powers(self):
        source = random.Random(66)
        for m, n in ((1, 3), (2, 2), (2, 3), (3, 3), (3, 4), (4, 3), (2, 5), (2, 6), (6, 2), (4, 2), (11, 1), (1, 12)):
            for top in (2, 9, 10 ** 20):
                row = [source.randrange(-top, top + 1) for _ in range(m)] + [source.choice((-3, -1, 1, 2))]
                other = [source.randrange(-top, top + 1) for _ in range(n)] + [source.choice((-2, -1, 1, 5))]
                self.assertEqual(sums(row, other), known_sums(row, other))
                self.assertEqual(sums(other, row), known_sums(row, other))
                self.assertEqual(products(row, other), known_products(row, other))
                self.assertEqual(products(other, row), known_products(row, other))

    def test_roots_more_than_once_and_nought_and_not_real(self):
        rows = [[0, 0, 1], [1, 2, 1], [1, 0, 1], [1, 0, 2, 0, 1], [0, 1, 0, 1], [3, 1, 1], [0, 0, 0, -4], [-8, 0, 0, 1]]
        for row in rows:
            for other in rows:
                if (len(row) - 1) * (len(other) - 1) <= 12:
                    self.assertEqual(sums(row, other), known_sums(row, other))
                    self.assertEqual(products(row, other), known_products(row, other))
            for k in range(1, 9):
                self.assertEqual(powers(row, k), known_powers(row, k))

    def test_powers_beside_sums_of_like_powers(self):
        source = random.Random(67)
        for m in range(1, 9):
            for k in range(1, 9):
                row = [source.randrange(-9, 10) for _ in range(m)] + [source.choice((-3, -1, 1, 2))]
                self.assertEqual(powers(row, k), known_powers(row, k))
        self.assertEqual(powers(GREAT, 8), known_powers(GREAT, 8))
        self.assertEqual(powers(built([1, 2, 1], -6), 4), known_powers(built([1, 2, 1], -6), 4))

    def test_plain(self):
        for factor in (1, -1, 6, -35):
            self.assertEqual(sums(scaled([-2, 0, 1], factor), [3, -5]), sums([-2, 0, 1], [-3, 5]))
            self.assertEqual(products(scaled([-2, 0, 1], factor), [3, -5]), [-18, 0, 25])
            self.assertEqual(powers(scaled([-2, 0, 3], factor), 2), [4, -12, 9])
            self.assertEqual(powers(scaled([-2, 0, 3], factor), 1), [-2, 0, 3])


class NothingIsShared(unittest.TestCase):
    def test_nothing_is_shared(self):
        rows = [[1, 1], [0, 1], [-2, 0, 1], [4, -6], [1, 0, 0, -3]]
        for row in rows:
            for k in (1, 2, 8):
                look_at_sharing(self, powers, lambda: [list(row), k])
            for other in rows:
                for call in (resultant, sums, products):
                    look_at_sharing(self, call, lambda: [list(row), list(other)])
        for row in ([], [3]):
            look_at_sharing(self, resultant, lambda: [list(row), [1, 2]])

    def test_one_list_in_both_places(self):
        row = [-2, 0, 1]
        for call in (sums, products):
            call(row, row).append(4)
            self.assertEqual(row, [-2, 0, 1])
        self.assertEqual((resultant(row, row), row), (0, [-2, 0, 1]))
        powers(row, 1)[0] = 9
        self.assertEqual((row, powers(row, 1)), ([-2, 0, 1], [-2, 0, 1]))


if __name__ == "__main__":
    unittest.main()
