import random
import unittest

from helpers import GREAT, PRIMES, built, look_at_sharing, plain_of, product, raised, scaled
from rootspan.errors import ByNought, NoPart, NoRoot, RootError
from rootspan.factors import common, divides, layers, part, without_squares

FACTORS = (1, -1, 6, -10, 10 ** 39 + 3)


# Powers of the primes, so that what divides what is known ahead.
def drawn(source, most=3):
    return [source.choice((0, 0, source.randrange(0, most + 1))) for _ in PRIMES]


class Divides(unittest.TestCase):
    def test_told_examples(self):
        cases = [
            ([1, 1], [-1, 0, 1], True), ([1, 1], [1, 0, 1], False), ([-1, 0, 1], [1, 1], False), ([2, 4], [1, 2], True),
            ([1, 2], [2, 4], True), ([-1, -2], [1, 4, 4], True), ([3, 6], [1, 4, 4], True), ([1, 3], [1, 2], False),
            ([0, 1], [0, 0, 1], True), ([0, 0, 1], [0, 1], False), ([0, 1], [1], False),
        ]
        for other, row, told in cases:
            with self.subTest(other=other, row=row):
                self.assertIs(divides(other, row), told)

    def test_constants_and_nought(self):
        for constant in ([1], [-1], [5], [-12], [10 ** 40]):
            for row in ([], [3], [-7], [1, 1], [2, 0, 5], GREAT):
                self.assertIs(divides(constant, row), True)
        for other in ([1, 1], [0, 0, -3], GREAT):
            self.assertIs(divides(other, []), True)
            self.assertIs(divides(other, [4]), False)

    def test_built_ones(self):
        source = random.Random(21)
        for _ in range(150):
            ours, theirs = drawn(source), drawn(source)
            if source.random() < 0.5:
                theirs = [max(one, other) for one, other in zip(ours, theirs)]
            told = all(one <= other for one, other in zip(ours, theirs))
            said = divides(built(ours, source.choice(FACTORS)), built(theirs, source.choice(FACTORS)))
            self.assertIs(said, told)

    def test_great_ones(self):
        self.assertIs(divides(GREAT, product(GREAT, [3, -5, 2])), True)
        self.assertIs(divides(scaled(GREAT, -6), product(GREAT, [3, -5, 2])), True)
        self.assertIs(divides(GREAT, [1] + product(GREAT, [3, -5, 2])[1:]), False)


class Common(unittest.TestCase):
    def both(self, first, second, told):
        self.assertEqual(common(first, second), told, (first, second))
        self.assertEqual(common(second, first), told, (second, first))

    def test_nought_and_constants(self):
        self.assertEqual(common([], []), [])
        for row in ([5], [-5], [1], [4, -6], [-4, 6], [0, -3], [0, 0, 7], scaled(GREAT, -3)):
            self.both(row, [], plain_of(row))
            self.both(row, row, plain_of(row))
            for constant in ([1], [-1], [6], [-10 ** 40]):
                self.both(row, constant, [1])

    def test_told_examples(self):
        self.both([-1, 0, 1], [1, 1], [1, 1])
        self.both([-1, 0, 1], [1, 2, 1], [1, 1])
        self.both([2, 4], [-3, -6], [1, 2])
        self.both([6, -4], [9, 0, -4], [-3, 2])
        self.both([0, 0, 4], [0, 6], [0, 1])
        self.both([-2, 0, 1], [-1, 1], [1])
        self.both([-2, 0, 1], [-2, 0, 2], [1])
        self.both([4, 8], [6, 9], [1])
        self.both([1, 0, 1], [2, 0, 1], [1])

    def test_one_is_the_common_part(self):
        for row in PRIMES + [GREAT]:
            for other in ([1], [-1], [7], [3, -5], [0, 1], [1, 0, 1], [2, 0, 0, -3]):
                self.both(scaled(row, -6), scaled(product(row, other), 10), plain_of(row))

    def test_built_ones(self):
        source = random.Random(22)
        for _ in range(120):
            ours, theirs = drawn(source), drawn(source)
            told = built([min(one, other) for one, other in zip(ours, theirs)])
            self.both(built(ours, source.choice(FACTORS)), built(theirs, source.choice(FACTORS)), told)

    def test_great_ones(self):
        told = plain_of(GREAT)
        self.both(product(GREAT, [3, -5, 2]), product(GREAT, [-7, 11]), told)
        self.both(scaled(product(GREAT, GREAT, [1, 0, 5]), -2), scaled(product(GREAT, [-2, 0, 3]), -9), told)


class Part(unittest.TestCase):
    def test_told_examples(self):
        cases = [
            ([-1, 0, 1], [1, 1], [-1, 1]), ([1, 4, 4], [1, 2], [1, 2]), ([1, 2], [2, 4], [1]), ([2, 4], [1, 2], [1]),
            ([2, 4], [-1, -2], [1]), ([-2, 0, 2], [3, 3], [-1, 1]), ([2, 0, -2], [3, 3], [-1, 1]), ([6], [4], [1]),
            ([6], [-4], [1]), ([4, -6], [5], [-2, 3]), ([4, -6], [-5], [-2, 3]), ([0, 0, 8], [0, 2], [0, 1]),
            ([0, 3, 6], [0, 7], [1, 2]),
        ]
        for row, other, told in cases:
            with self.subTest(row=row, other=other):
                self.assertEqual(part(row, other), told)

    def test_of_nought(self):
        for other in ([1], [-4], [1, 1], [0, 0, -3], GREAT):
            self.assertEqual(part([], other), [])

    def test_by_nought(self):
        for row in ([], [5], [1, 1], GREAT):
            with self.assertRaises(ByNought) as caught:
                part(row, [])
            self.assertNotIsInstance(caught.exception, NoPart)

    def test_no_part(self):
        cases = [([1, 0, 1], [1, 1]), ([1, 1], [-1, 0, 1]), ([5], [1, 1]), ([1, 1], [1, 2]), ([1] + GREAT[1:], GREAT)]
        for row, other in cases:
            with self.assertRaises(NoPart) as caught:
                part(row, other)
            self.assertIsInstance(caught.exception, RootError)
            self.assertNotIsInstance(caught.exception, (ByNought, NoRoot))

    def test_built_ones(self):
        source = random.Random(23)
        for _ in range(150):
            ours, more = drawn(source), drawn(source)
            row = built([one + other for one, other in zip(ours, more)], source.choice(FACTORS))
            self.assertEqual(part(row, built(ours, source.choice(FACTORS))), built(more))

    def test_built_ones_that_are_no_part(self):
        source = random.Random(24)
        refused = 0
        for _ in range(60):
            ours, theirs = drawn(source), drawn(source)
            if any(one > other for one, other in zip(ours, theirs)):
                refused += 1
                with self.assertRaises(NoPart):
                    part(built(theirs, source.choice(FACTORS)), built(ours, source.choice(FACTORS)))
        self.assertGreater(refused, 20)


class WithoutSquares(unittest.TestCase):
    def test_nought_and_constants(self):
        self.assertEqual(without_squares([]), [])
        for constant in ([1], [-1], [6], [-10 ** 40]):
            self.assertEqual(without_squares(constant), [1])

    def test_told_examples(self):
        cases = [
            ([0, 0, 1], [0, 1]), ([1, 2, 1], [1, 1]), ([-3, -6, -3], [1, 1]), ([4, -6], [-2, 3]), ([-1, 0, 1], [-1, 0, 1]),
            ([1, 0, -1], [-1, 0, 1]), ([4, 0, -4, 0, 1], [-2, 0, 1]), ([0, 0, 0, 0, -8], [0, 1]), ([1, 0, 2, 0, 1], [1, 0, 1]),
            ([0, 0, -1, 1], [0, -1, 1]),
        ]
        for row, told in cases:
            with self.subTest(row=row):
                self.assertEqual(without_squares(row), told)

    def test_built_ones(self):
        source = random.Random(25)
        for _ in range(80):
            powers = drawn(source, 4)
            said = without_squares(built(powers, source.choice(FACTORS)))
            self.assertEqual(said, built([min(k, 1) for k in powers]))
            self.assertEqual(without_squares(said), said)

    def test_each_power(self):
        for power in (1, 2, 3, 4):
            for prime in PRIMES + [plain_of(GREAT)]:
                self.assertEqual(without_squares(scaled(raised(prime, power), -6)), prime)


class Layers(unittest.TestCase):
    def look(self, powers, factor):
        told = []
        for k in range(1, 9):
            layer = built([1 if power == k else 0 for power in powers])
            if len(layer) > 1:
                told.append((layer, k))
        said = layers(built(powers, factor))
        self.assertIs(type(said), list)
        self.assertTrue(all(type(one) is tuple for one in said))
        self.assertEqual(said, told)

    def test_nought_and_constants(self):
        for row in ([], [1], [-1], [6], [-10 ** 40]):
            self.assertEqual(layers(row), [])

    def test_told_examples(self):
        self.assertEqual(layers([0, 0, 1]), [([0, 1], 2)])
        self.assertEqual(layers([0, 0, -1, 1]), [([-1, 1], 1), ([0, 1], 2)])
        self.assertEqual(layers([4, -6]), [([-2, 3], 1)])
        self.assertEqual(layers([-1, 0, 1]), [([-1, 0, 1], 1)])
        self.assertEqual(layers([-3, -6, -3]), [([1, 1], 2)])
        self.assertEqual(layers(product([0, 1], raised([1, 2], 4))), [([0, 1], 1), ([1, 2], 4)])

    def test_built_ones(self):
        source = random.Random(26)
        for _ in range(60):
            self.look(drawn(source, 4), source.choice(FACTORS))

    def test_left_out_powers(self):
        self.look([3, 0, 3, 0, 0, 1, 0, 0, 0, 0], -2)
        self.look([0, 4, 0, 4, 0, 0, 0, 0, 0, 0], 1)
        self.look([0, 2, 0, 4, 2, 0, 0, 0, 0, 0], 5)
        self.look([8, 0, 0, 1, 0, 0, 0, 0, 0, 0], -1)
        self.look([0, 0, 5, 0, 0, 0, 0, 2, 0, 0], 3)

    def test_great_ones(self):
        row = scaled(product(raised(GREAT, 3), [1, 1], raised([0, 1], 2)), -4)
        self.assertEqual(layers(row), [([1, 1], 1), ([0, 1], 2), (plain_of(GREAT), 3)])


class NothingIsShared(unittest.TestCase):
    def test_nothing_is_shared(self):
        rows = [[], [1], [-6], [0, 1], [1, 1], [4, -6], [1, 2, 1], [-1, 0, 1], [0, 0, -1, 1], built([1, 2, 3], -2)]
        for row in rows:
            for call in (without_squares, layers):
                look_at_sharing(self, call, lambda: [list(row)])
            for other in rows:
                look_at_sharing(self, common, lambda: [list(row), list(other)])
                if other:
                    look_at_sharing(self, divides, lambda: [list(other), list(row)])
                    look_at_sharing(self, part, lambda: [product(row, other), list(other)])

    def test_one_list_in_both_places(self):
        row = [1, 2]
        for call in (common, part):
            call(row, row).append(5)
            self.assertEqual(row, [1, 2])
        said = common(row, [])
        said[0] = 7
        self.assertEqual((row, common(row, [])), ([1, 2], [1, 2]))


if __name__ == "__main__":
    unittest.main()
