import random
import unittest

from helpers import GREAT, look_at_sharing, product, scaled
from rootspan.division import divided
from rootspan.errors import ByNought, RootError
from rootspan.polys import added


def power_of(row, other):
    return 1 if len(row) < len(other) else abs(other[-1]) ** (len(row) - len(other) + 1)


class Divided(unittest.TestCase):
    # Factor, sentence and degree together: there is just one such tuple.
    def look(self, row, other):
        said = divided(row, other)
        self.assertIs(type(said), tuple)
        factor, quotient, rest = said
        self.assertIs(type(factor), int)
        self.assertEqual(factor, power_of(row, other), (row, other))
        for one in (quotient, rest):
            self.assertIs(type(one), list)
            self.assertTrue(one == [] or one[-1] != 0, (row, other))
        self.assertEqual(scaled(row, factor), added(product(quotient, other), rest), (row, other))
        self.assertLess(len(rest), len(other), (row, other))

    def test_told_examples(self):
        cases = [
            ([-1, 0, 1], [1, 1], (1, [-1, 1], [])),
            ([1, 0, 1], [1, 1], (1, [-1, 1], [2])),
            ([1, 0, 1], [1, 2], (4, [-1, 2], [5])),
            ([1, 0, 1], [1, -2], (4, [-1, -2], [5])),
            ([1, 2, 3], [5, 3], (9, [-9, 9], [54])),
            ([1, 2, 3], [5, -3], (9, [-21, -9], [114])),
            ([1, 2, 3], [4, 5, 2], (2, [3], [-10, -11])),
            ([1, 2, 3], [4, 5, -2], (2, [-3], [14, 19])),
            ([0, 0, 0, 1], [1, 0, -1], (1, [0, -1], [0, 1])),
        ]
        for row, other, told in cases:
            with self.subTest(row=row, other=other):
                self.assertEqual(divided(row, other), told)
                self.look(row, other)

    def test_less_degree(self):
        for row, other in (([5], [1, 2]), ([1, 2], [0, 0, 3]), ([-4, 6], [1, 0, 0, -2]), ([7], GREAT), ([1, -3], [4, 4, -4])):
            kept = list(row)
            said = divided(row, other)
            self.assertEqual(said, (1, [], row))
            said[2].append(9)
            self.assertEqual(row, kept)
            self.assertEqual(divided(row, other), (1, [], kept))

    def test_by_constants(self):
        cases = [
            ([4, -6], [1], (1, [4, -6], [])), ([4, -6], [-1], (1, [-4, 6], [])), ([4, -6], [2], (4, [8, -12], [])),
            ([4, -6], [-2], (4, [-8, 12], [])), ([3], [5], (5, [3], [])), ([3], [-5], (5, [-3], [])),
            ([1, 0, 2], [-3], (27, [-9, 0, -18], [])),
        ]
        for row, other, told in cases:
            with self.subTest(row=row, other=other):
                self.assertEqual(divided(row, other), told)

    def test_nought_divided(self):
        for other in ([1], [-4], [1, 2], [0, 0, -3], GREAT):
            self.assertEqual(divided([], other), (1, [], []))

    def test_by_nought(self):
        for row in ([], [5], [-1, 0, 1], GREAT):
            with self.assertRaises(ByNought) as caught:
                divided(row, [])
            self.assertIs(type(caught.exception), ByNought)
            self.assertIsInstance(caught.exception, RootError)

    def test_the_power_also_where_a_smaller_factor_would_do(self):
        self.assertEqual(divided([0, 0, 4], [0, 2]), (4, [0, 8], []))
        self.assertEqual(divided([1, 2], [1, 2]), (2, [2], []))
        self.assertEqual(divided([-2, -4], [1, -2]), (2, [4], [-8]))
        self.assertEqual(divided([1, 4, 4], [1, 2]), (4, [4, 8], []))
        self.assertEqual(divided([0, 0, 0, 6], [0, -3]), (27, [0, 0, -54], []))

    def test_terms_that_go_out_by_more_than_one_degree(self):
        self.assertEqual(divided([0, 0, 0, 0, 0, 1], [0, 0, 3]), (81, [0, 0, 0, 27], []))
        self.assertEqual(divided([1, 0, 0, 0, 2], [0, 3]), (81, [0, 0, 0, 54], [81]))
        self.assertEqual(divided([7, 0, 0, 0, 0, 1], [1, 0, 0, 2]), (8, [0, 0, 4], [56, 0, -4]))
        for rest in ([], [1], [5, -7], [0, 3]):
            for other in ([1, 1, 2], [4, 0, -3], [0, 0, 5], [9, -1, 1]):
                for quotient in ([1, 0, 0, 0, 2], [0, 0, 0, -1], [3, 0, 1], [-2]):
                    self.look(added(product(quotient, other), rest), other)

    def test_even_and_odd_differences_of_the_degrees(self):
        for last in (1, -1, 2, -2, 3, -3, -10 ** 39 - 1):
            for length in range(1, 9):
                row = [k - 3 for k in range(length)] + [5]
                for other in ([last], [4, last], [1, -6, last], [0, 0, last]):
                    self.look(row, other)
                    self.look(scaled(row, -1), other)

    def test_great_ones(self):
        source = random.Random(11)
        for _ in range(60):
            row = [source.choice((0, source.randrange(-10 ** 40, 10 ** 40))) for _ in range(source.randrange(1, 9))] + [10 ** 39 + 1]
            other = [source.randrange(-10 ** 40, 10 ** 40) for _ in range(source.randrange(0, 6))]
            self.look(row, other + [source.choice((-1, 1)) * source.randrange(10 ** 39, 10 ** 40)])
        self.look([1] * 41, [10 ** 40 - 1, -(10 ** 39)])
        self.look([1] * 41, GREAT)

    def test_small_ones(self):
        source = random.Random(12)
        for _ in range(600):
            row = [source.randrange(-3, 4) for _ in range(source.randrange(0, 7))] + [source.choice((-2, -1, 1, 2))]
            other = [source.randrange(-3, 4) for _ in range(source.randrange(0, 5))] + [source.choice((-3, -2, -1, 1, 2, 3))]
            self.look(row, other)

    def test_nothing_is_shared(self):
        for row in ([], [3], [1, 2], [4, 0, -6], [1, 0, 0, 0, 5]):
            for other in ([1], [-2], [1, 3], [0, 1, -4]):
                look_at_sharing(self, divided, lambda: [list(row), list(other)])
        row = [1, 4, 4]
        self.assertEqual(divided(row, row), (4, [4], []))
        self.assertEqual(row, [1, 4, 4])


if __name__ == "__main__":
    unittest.main()
