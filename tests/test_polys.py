import random
import unittest
from fractions import Fraction
from math import gcd

from rootspan import polys
from rootspan.polys import (
    added, degree, flipped, lifted, multiplied, plain, poly, shrunk, sign_at, slope, taken, turned, value_at,
)
from rootspan.ratios import Ratio

GREAT = 10 ** 39 + 3


# An answer by another way than the program's: a dict from exponents to coefficients.
def terms(row):
    return {k: c for k, c in enumerate(row) if c != 0}


def listed(sums):
    kept = {k: c for k, c in sums.items() if c != 0}
    return [kept.get(k, 0) for k in range(max(kept) + 1)] if kept else []


def combined(first, second, factor):
    sums = terms(first)
    for k, c in enumerate(second):
        sums[k] = sums.get(k, 0) + factor * c
    return listed(sums)


def product(first, second):
    sums = {}
    for j, one in enumerate(first):
        for k, other in enumerate(second):
            sums[j + k] = sums.get(j + k, 0) + one * other
    return listed(sums)


def worth(row, at):
    return sum((c * at ** k for k, c in enumerate(row)), Fraction(0))


def samples():
    source = random.Random(7)
    rows = [[], [5], [-5], [1], [-1], [0, 1], [0, -1], [3, 0, -2], [0, 0, 0, 4], [-2, 0, 1], [1, -1, 1, -1], [6, -9, 12]]
    for length in (2, 3, 8, 20, 40, 41):
        for _ in range(2):
            row = [source.choice((0, source.randrange(-10 ** 40 + 1, 10 ** 40))) for _ in range(length)]
            row[-1] = source.choice((-1, 1)) * source.randrange(1, 10 ** 40)
            rows.append(row)
    return rows


class PolyAndDegree(unittest.TestCase):
    def test_poly(self):
        cases = [
            ([], []), ([0], []), ([0, 0, 0], []), ([0] * 300, []), ([5], [5]), ([5, 0], [5]), ([0, 5], [0, 5]),
            ([0, 5, 0, 0], [0, 5]), ([1, 0, 2], [1, 0, 2]), ([1, 0, 2, 0], [1, 0, 2]), ([0, 0, -1], [0, 0, -1]),
            ([GREAT, 0, -GREAT, 0], [GREAT, 0, -GREAT]), ([1] + [0] * 299, [1]),
        ]
        for row, told in cases:
            with self.subTest(row=row):
                self.assertEqual(poly(row), told)

    def test_degree(self):
        for row, told in (([], -1), ([5], 0), ([0, 1], 1), ([0, 0, -3], 2), ([0] * 40 + [1], 40)):
            self.assertEqual(degree(row), told)


class AddedTakenMultiplied(unittest.TestCase):
    def test_told_examples(self):
        self.assertEqual(added([1, 2], [3, 4, 5]), [4, 6, 5])
        self.assertEqual(added([3, 4, 5], [1, 2]), [4, 6, 5])
        self.assertEqual(taken([1, 2], [3, 4, 5]), [-2, -2, -5])
        self.assertEqual(taken([3, 4, 5], [1, 2]), [2, 2, 5])
        self.assertEqual(multiplied([-1, 1], [1, 1]), [-1, 0, 1])
        self.assertEqual(multiplied([2, 3], [5]), [10, 15])

    def test_nought_and_constants(self):
        self.assertEqual((added([], []), taken([], []), multiplied([], [])), ([], [], []))
        for row in samples():
            self.assertEqual(added(row, []), row)
            self.assertEqual(added([], row), row)
            self.assertEqual(taken(row, []), row)
            self.assertEqual(taken([], row), [-c for c in row])
            self.assertEqual(multiplied(row, []), [])
            self.assertEqual(multiplied([], row), [])
            self.assertEqual(multiplied(row, [1]), row)
            self.assertEqual(multiplied([-3], row), [-3 * c for c in row])
        self.assertEqual((added([2], [3]), taken([2], [3]), multiplied([2], [3])), ([5], [-1], [6]))
        self.assertEqual((added([2], [-2]), taken([2], [2])), ([], []))

    def test_highest_terms_go_out(self):
        self.assertEqual(added([1, 2, 3], [0, 0, -3]), [1, 2])
        self.assertEqual(added([1, 0, 3], [0, 0, -3]), [1])
        self.assertEqual(added([0, 2, 3], [0, -2, -3]), [])
        self.assertEqual(taken([1, 2, 3], [4, 2, 3]), [-3])
        self.assertEqual(taken([1, 2, 3], [1, 1, 3]), [0, 1])
        self.assertEqual(taken([GREAT, 0, GREAT], [1, 0, GREAT]), [GREAT - 1])
        for row in samples():
            self.assertEqual(taken(row, row), [])
            self.assertEqual(added(row, [-c for c in row]), [])

    def test_beside_another_way(self):
        for first in samples():
            for second in samples():
                self.assertEqual(added(first, second), combined(first, second, 1))
                self.assertEqual(taken(first, second), combined(first, second, -1))
                self.assertEqual(multiplied(first, second), product(first, second))

    def test_by_itself(self):
        row = [1, -2, 0, 3]
        self.assertEqual(added(row, row), [2, -4, 0, 6])
        self.assertEqual(multiplied(row, row), product(row, row))
        self.assertEqual(row, [1, -2, 0, 3])


class Shapes(unittest.TestCase):
    def test_slope(self):
        for row, told in (([], []), ([7], []), ([7, 3], [3]), ([0, 0, 1], [0, 2]), ([5, -4, 3, -2], [-4, 6, -6])):
            self.assertEqual(slope(row), told)
        for row in samples():
            self.assertEqual(slope(row), listed({k - 1: k * c for k, c in enumerate(row)}))
        self.assertEqual(slope([0] * 40 + [GREAT]), [0] * 39 + [40 * GREAT])

    def test_turned(self):
        for row, told in (([], []), ([-7], [-7]), ([1, 2], [1, -2]), ([1, 2, 3, 4], [1, -2, 3, -4]), ([0, -1], [0, 1])):
            self.assertEqual(turned(row), told)
        for row in samples():
            once = turned(row)
            self.assertEqual(turned(once), row)
            for at in (Fraction(1), Fraction(-2), Fraction(3, 5)):
                self.assertEqual(worth(once, at), worth(row, -at))

    def test_flipped(self):
        cases = [
            ([], []), ([-7], [-7]), ([1, 2], [2, 1]), ([0, 2], [2]), ([0, 0, 3, 4], [4, 3]), ([0, 1, 0, 2], [2, 0, 1]),
            ([5, 0, 0, 1], [1, 0, 0, 5]), ([0] * 40 + [GREAT], [GREAT]),
        ]
        for row, told in cases:
            self.assertEqual(flipped(row), told)
        for row in samples():
            self.assertEqual(flipped(row), listed({degree(row) - k: c for k, c in enumerate(row)}))

    def test_lifted(self):
        self.assertEqual(lifted([1, 2, 3], 2), [1, 0, 2, 0, 3])
        self.assertEqual(lifted([-2, 1], 8), [-2, 0, 0, 0, 0, 0, 0, 0, 1])
        self.assertEqual(lifted([0, 0, -1], 3), [0, 0, 0, 0, 0, 0, -1])
        for k in range(1, 9):
            self.assertEqual(lifted([], k), [])
            self.assertEqual(lifted([-7], k), [-7])
            for row in samples():
                self.assertEqual(lifted(row, k), listed({k * j: c for j, c in enumerate(row)}))
        for row in samples():
            self.assertEqual(lifted(row, 1), row)


class ShrunkAndPlain(unittest.TestCase):
    def test_shrunk(self):
        cases = [
            ([], []), ([5], [1]), ([-5], [-1]), ([4, -6], [2, -3]), ([-4, 6], [-2, 3]), ([0, 3], [0, 1]),
            ([6, 10, 15], [6, 10, 15]), ([12, 0, 18, -30], [2, 0, 3, -5]), ([-7, -14], [-1, -2]), ([12, 24, 5], [12, 24, 5]),
            ([GREAT * 4, 0, -GREAT * 6], [2, 0, -3]), ([1, 0, 0, 9], [1, 0, 0, 9]),
        ]
        for row, told in cases:
            with self.subTest(row=row):
                self.assertEqual(shrunk(row), told)

    def test_plain(self):
        cases = [
            ([], []), ([5], [1]), ([-5], [1]), ([4, -6], [-2, 3]), ([-4, 6], [-2, 3]), ([0, -3], [0, 1]),
            ([-7, -14], [1, 2]), ([-7, 14], [-1, 2]), ([2, 1], [2, 1]), ([2, -1], [-2, 1]), ([0, 0, -1], [0, 0, 1]),
            ([GREAT * 4, 0, -GREAT * 6], [-2, 0, 3]),
        ]
        for row, told in cases:
            with self.subTest(row=row):
                self.assertEqual(plain(row), told)

    def test_great_ones(self):
        for row in samples():
            for factor in (1, -1, 6, -GREAT):
                full = [factor * c for c in row]
                small, even = shrunk(full), plain(full)
                divisor = gcd(*full)
                self.assertEqual([divisor * c for c in small], full)
                self.assertEqual(gcd(*small), 1 if row else 0)
                self.assertEqual(even, small if not small or small[-1] > 0 else [-c for c in small])
                self.assertEqual(plain(even), even)


class Values(unittest.TestCase):
    def look(self, row, top, bottom):
        at = Ratio(top, bottom)
        told = worth(row, Fraction(top, bottom))
        said = value_at(row, at)
        self.assertIsInstance(said, Ratio)
        self.assertEqual((said.top, said.bottom), (told.numerator, told.denominator), (row, top, bottom))
        self.assertEqual(sign_at(row, at), (told > 0) - (told < 0), (row, top, bottom))
        self.assertIs(type(sign_at(row, at)), int)
        self.assertEqual(Fraction(at.top, at.bottom), Fraction(top, bottom))

    def test_told_examples(self):
        said = value_at([1, -3, 2], Ratio(3, 2))
        self.assertEqual((said.top, said.bottom), (1, 1))
        said = value_at([0, 0, 4], Ratio(-1, 2))
        self.assertEqual((said.top, said.bottom), (1, 1))
        said = value_at([1, 1], Ratio(-5, 3))
        self.assertEqual((said.top, said.bottom), (-2, 3))

    def test_nought_and_constants(self):
        for top, bottom in ((0, 1), (1, 2), (-7, 3), (GREAT, 7)):
            at = Ratio(top, bottom)
            said = value_at([], at)
            self.assertEqual((said.top, said.bottom, sign_at([], at)), (0, 1, 0))
            for constant in (4, -4, GREAT):
                said = value_at([constant], at)
                self.assertEqual((said.top, said.bottom), (constant, 1))
                self.assertEqual(sign_at([constant], at), 1 if constant > 0 else -1)

    def test_beside_fractions(self):
        ats = [(0, 1), (1, 1), (-1, 1), (2, 1), (1, 2), (-3, 2), (7, 5), (-GREAT, 11), (3, GREAT), (GREAT + 1, GREAT)]
        for row in samples():
            for top, bottom in ats:
                self.look(row, top, bottom)

    def test_at_fractions_that_are_roots(self):
        roots = [(1, 2), (-2, 3), (5, 1), (0, 1), (-GREAT, 7), (7, GREAT)]
        for top, bottom in roots:
            for other in ([1], [-3], [1, 0, 1], [-5, 0, 0, -2]):
                row = multiplied([-top, bottom], other)
                said = value_at(row, Ratio(top, bottom))
                self.assertEqual((said.top, said.bottom), (0, 1))
                self.assertEqual(sign_at(row, Ratio(top, bottom)), 0)

    def test_beside_fractions_that_are_roots(self):
        for top, bottom in ((1, 2), (-2, 3), (5, 1), (0, 1), (-GREAT, 7), (7, GREAT)):
            root = Ratio(top, bottom)
            for small in (Ratio(1, 100), Ratio(1, 10 ** 90)):
                above, below = root.plus(small), root.minus(small)
                rising = [-top, bottom]
                self.assertEqual((sign_at(rising, below), sign_at(rising, above)), (-1, 1))
                falling = [top, -bottom]
                self.assertEqual((sign_at(falling, below), sign_at(falling, above)), (1, -1))
                touching = multiplied(rising, rising)
                self.assertEqual((sign_at(touching, below), sign_at(touching, above)), (1, 1))
                for row in (rising, falling, touching):
                    self.look(row, above.top, above.bottom)
                    self.look(row, below.top, below.bottom)

    def test_beside_roots_that_are_no_fractions(self):
        self.assertEqual(sign_at([-2, 0, 1], Ratio(141421356237309504880, 10 ** 20)), -1)
        self.assertEqual(sign_at([-2, 0, 1], Ratio(141421356237309504881, 10 ** 20)), 1)
        self.assertEqual(sign_at([-2, 0, 1], Ratio(-141421356237309504880, 10 ** 20)), -1)
        self.assertEqual(sign_at([-2, 0, 1], Ratio(-141421356237309504881, 10 ** 20)), 1)

    def test_greatest_that_are_promised(self):
        row = [10 ** 300 - 1 - k for k in range(41)]
        self.look(row, 10 ** 300 - 1, 10 ** 300 - 3)
        self.look(row, 1 - 10 ** 300, 10 ** 300 - 3)


# Each function that takes or gives a list, with what may stand behind its lists.
CALLS = [
    ("poly", 1, []), ("degree", 1, []), ("added", 2, []), ("taken", 2, []), ("multiplied", 2, []), ("slope", 1, []),
    ("turned", 1, []), ("flipped", 1, []), ("lifted", 1, [1]), ("lifted", 1, [8]), ("shrunk", 1, []), ("plain", 1, []),
    ("value_at", 1, [Ratio(-3, 2)]), ("sign_at", 1, [Ratio(2)]),
]


def plain_told(said):
    return (said.top, said.bottom) if isinstance(said, Ratio) else said


class NothingIsShared(unittest.TestCase):
    def asked(self):
        rows = [[], [1], [-4], [0, 1], [3, -1, 2], [0, 0, 5], [6, 0, -9]]
        for name, many, behind in CALLS:
            for first in rows:
                for second in rows if many == 2 else [None]:
                    yield name, [list(row) for row in (first, second)[:many]], behind

    def test_lists_handed_in_stay(self):
        for name, lists, behind in self.asked():
            kept = [list(row) for row in lists]
            getattr(polys, name)(*lists, *behind)
            self.assertEqual(lists, kept, name)
        row = [0, 2, 0, 0]
        poly(row)
        self.assertEqual(row, [0, 2, 0, 0])

    def test_lists_given_are_the_askers_own(self):
        for name, lists, behind in self.asked():
            call = getattr(polys, name)
            kept = [list(row) for row in lists]
            said = call(*lists, *behind)
            told = list(said) if isinstance(said, list) else plain_told(said)
            if isinstance(said, list):
                said.append(99)
                said[0] = 98
            self.assertEqual(lists, kept, name)
            again = call(*lists, *behind)
            self.assertEqual(plain_told(again), told, name)
            for row in lists:
                row.insert(0, 97)
                row.append(96)
            self.assertEqual(plain_told(again), told, name)
            self.assertEqual(plain_told(call(*kept, *behind)), told, name)

    def test_one_list_in_both_places(self):
        for call in (added, taken, multiplied):
            row = [1, 0, 2]
            said = call(row, row)
            said.append(5)
            self.assertEqual(row, [1, 0, 2])


if __name__ == "__main__":
    unittest.main()
