import random
import unittest
from itertools import permutations, product as choices

from helpers import by_fractions, look_at_sharing
from rootspan.determinants import determinant

THIRTY = 10 ** 29 + 11


# By another way than the program's: all permutations.
def turns(order):
    return sum(order[j] > order[k] for k in range(len(order)) for j in range(k))


def by_permutations(rows):
    total = 0
    for order in permutations(range(len(rows))):
        term = -1 if turns(order) % 2 else 1
        for row, k in zip(rows, order):
            term *= row[k]
        total += term
    return total


class Determinant(unittest.TestCase):
    def test_few_rows(self):
        cases = [
            ([], 1), ([[5]], 5), ([[-3]], -3), ([[0]], 0), ([[THIRTY]], THIRTY), ([[1, 2], [3, 4]], -2), ([[3, 4], [1, 2]], 2),
            ([[0, 1], [1, 0]], -1), ([[0, 2], [3, 4]], -6), ([[2, 0], [5, 7]], 14), ([[0, 0], [1, 2]], 0), ([[1, 2], [0, 0]], 0),
            ([[0, 5], [0, 7]], 0), ([[2, 4], [3, 6]], 0), ([[1, 0, 0], [0, 1, 0], [0, 0, 1]], 1),
            ([[0, 0, 1], [1, 0, 0], [0, 1, 0]], 1), ([[0, 0, 1], [0, 1, 0], [1, 0, 0]], -1),
            ([[2, -1, 0], [-1, 2, -1], [0, -1, 2]], 4), ([[1, 2, 3], [4, 5, 6], [7, 8, 9]], 0),
        ]
        for rows, told in cases:
            with self.subTest(rows=rows):
                said = determinant(rows)
                self.assertEqual(said, told)
                self.assertIs(type(said), int)

    def test_all_small_ones(self):
        for numbers in choices((-1, 0, 2), repeat=4):
            rows = [list(numbers[:2]), list(numbers[2:])]
            self.assertEqual(determinant(rows), by_permutations(rows))
        for numbers in choices((0, 1, -2), repeat=9):
            rows = [list(numbers[:3]), list(numbers[3:6]), list(numbers[6:])]
            self.assertEqual(determinant(rows), by_permutations(rows))

    def test_rows_that_change_places(self):
        for size in (2, 3, 4, 5):
            for order in permutations(range(size)):
                rows = [[k + 2 if place == k else 0 for k in range(size)] for place in order]
                told = -1 if turns(order) % 2 else 1
                for k in range(size):
                    told *= k + 2
                self.assertEqual(determinant(rows), told)
        for first in range(1, 6):
            rows = [[0] * first + [k * k + j for k in range(first, 6)] if j < first else [j + k * j + 1 for k in range(6)] for j in range(6)]
            self.assertEqual(determinant(rows), by_permutations(rows))

    def test_sixteen_rows_that_change_places(self):
        source = random.Random(51)
        for _ in range(40):
            order = list(range(16))
            source.shuffle(order)
            above = [[source.randrange(-9, 10) if k > j else (2 if k == j else 0) for k in range(16)] for j in range(16)]
            told = 2 ** 16 * (-1 if turns(order) % 2 else 1)
            self.assertEqual(determinant([above[place] for place in order]), told)

    def test_alike_and_nought_rows(self):
        source = random.Random(52)
        for size in (2, 3, 5, 9, 16):
            rows = [[source.randrange(-9, 10) for _ in range(size)] for _ in range(size)]
            alike = [list(row) for row in rows]
            alike[-1] = list(alike[0])
            self.assertEqual(determinant(alike), 0)
            twice = [list(row) for row in rows]
            twice[0] = [-3 * c for c in twice[size // 2]] if size // 2 else twice[0]
            self.assertEqual(determinant(twice), 0)
            for place in range(size):
                self.assertEqual(determinant(rows[:place] + [[0] * size] + rows[place + 1:]), 0)
                self.assertEqual(determinant([row[:place] + [0] + row[place + 1:] for row in rows]), 0)

    def test_drawn_ones(self):
        source = random.Random(53)
        for size in list(range(1, 17)) * 4:
            top = source.choice((2, 9, THIRTY))
            rows = [[source.choice((0, source.randrange(-top, top + 1))) for _ in range(size)] for _ in range(size)]
            self.assertEqual(determinant(rows), by_fractions(rows))
            full = [[source.randrange(-top, top + 1) for _ in range(size)] for _ in range(size)]
            self.assertEqual(determinant(full), by_fractions(full))
            if size > 1:
                self.assertEqual(determinant([full[1], full[0]] + full[2:]), -determinant(full))

    def test_thirty_figures(self):
        self.assertEqual(determinant([[THIRTY, 1], [-1, THIRTY]]), THIRTY ** 2 + 1)
        rows = [[THIRTY if k == j else 0 for k in range(16)] for j in range(16)]
        self.assertEqual(determinant(rows), THIRTY ** 16)
        rows[0], rows[9] = rows[9], rows[0]
        self.assertEqual(determinant(rows), -THIRTY ** 16)

    def test_nothing_is_shared(self):
        for rows in ([], [[4]], [[1, 2], [3, 4]], [[0, 1, 2], [3, 0, 5], [1, 1, 1]], [[0, 0], [0, 0]]):
            look_at_sharing(self, lambda told: determinant(told[0]), lambda: [[[list(row) for row in rows]]])
            kept = [list(row) for row in rows]
            parts = list(rows)
            determinant(rows)
            self.assertEqual(rows, kept)
            self.assertTrue(all(one is other for one, other in zip(rows, parts)))
        row = [1, 2]
        self.assertEqual((determinant([row, row]), row), (0, [1, 2]))


if __name__ == "__main__":
    unittest.main()
