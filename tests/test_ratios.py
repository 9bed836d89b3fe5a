import math
import random
import unittest
from fractions import Fraction

from rootspan.errors import ByNought, NoRatio
from rootspan.ratios import Ratio, shared

BIG = 10 ** 60 + 7
BIGGER = 3 ** 140


def pair(ratio):
    return (ratio.top, ratio.bottom)


def samples():
    source = random.Random(5)
    small = [(top, bottom) for top in range(-7, 8) for bottom in (-6, -4, -1, 1, 2, 3, 4, 6)]
    great = []
    for _ in range(40):
        common = source.randrange(1, 10 ** 20)
        top = source.randrange(-10 ** 60, 10 ** 60)
        bottom = source.choice((-1, 1)) * source.randrange(1, 10 ** 60)
        great.append((top * common, bottom * common))
    return small, great


class Shared(unittest.TestCase):
    def test_ordinary(self):
        cases = [
            ([12, 18], 6), ([18, 12], 6), ([-12, 18], 6), ([12, -18], 6), ([-12, -18], 6),
            ([4, 6, 10], 2), ([5, 7], 1), ([1, 1000], 1), ([-1, 8], 1), ([3, 9, 27], 3), ([27, 9, 3], 3),
        ]
        for row, told in cases:
            with self.subTest(row=row):
                self.assertEqual(shared(row), told)

    def test_noughts_among_them(self):
        for row in ([0, 6, 9], [6, 0, 9], [6, 9, 0], [0, -6, 0, 9, 0], [0, 0, -3]):
            with self.subTest(row=row):
                self.assertEqual(shared(row), 3)

    def test_one_number(self):
        for value in (1, -1, 7, -7, BIG, -BIG):
            self.assertEqual(shared([value]), abs(value))

    def test_noughts_alone_and_none(self):
        for row in ([], [0], [0, 0], [0] * 300):
            self.assertEqual(shared(row), 0)

    def test_last_brings_it_down(self):
        self.assertEqual(shared([12, 24, 36, 48, 5]), 1)
        self.assertEqual(shared([12, 24, -36, 48, -8]), 4)
        self.assertEqual(shared([12] * 299 + [9]), 3)
        self.assertEqual(shared([BIG * 6, BIG * 12, BIG * 4]), BIG * 2)

    def test_great_numbers(self):
        self.assertEqual(shared([BIG * 14, -BIG * 21]), BIG * 7)
        self.assertEqual(shared([BIGGER * 2 ** 200, -BIGGER * 5 ** 90]), BIGGER)
        self.assertEqual(shared([2 ** 300, 3 ** 200]), 1)
        source = random.Random(1)
        for _ in range(60):
            common = source.randrange(1, 10 ** 30)
            row = [common * source.randrange(-10 ** 70, 10 ** 70) for _ in range(source.randrange(1, 6))]
            self.assertEqual(shared(row), math.gcd(*row))

    def test_neighbours_in_the_slowest_row(self):
        one, other = 1, 1
        while other < 10 ** 299:
            one, other = other, one + other
        self.assertEqual(shared([one, other]), 1)

    def test_kind_and_list_kept(self):
        for row in ([], [0], [-4, 6, 0], [BIG, 3]):
            kept = list(row)
            told = shared(row)
            self.assertIs(type(told), int)
            self.assertEqual(row, kept)
            row.append(1)
            self.assertEqual(shared(kept), told)


class Making(unittest.TestCase):
    def test_lowest_terms(self):
        cases = [
            ((6, 4), (3, 2)), ((-6, 4), (-3, 2)), ((6, -4), (-3, 2)), ((-6, -4), (3, 2)),
            ((0, 5), (0, 1)), ((0, -5), (0, 1)), ((0, 1), (0, 1)),
            ((8, 4), (2, 1)), ((8, -4), (-2, 1)), ((4, 8), (1, 2)), ((-1, -1), (1, 1)), ((7, 3), (7, 3)),
            ((BIG * 6, -BIG * 4), (-3, 2)), ((-BIGGER, -BIG), (BIGGER, BIG)),
        ]
        for made_of, told in cases:
            with self.subTest(made_of=made_of):
                self.assertEqual(pair(Ratio(made_of[0], made_of[1])), told)

    def test_bottom_left_out(self):
        for top in (0, 1, -1, 7, -12, BIG, -BIGGER):
            self.assertEqual(pair(Ratio(top)), (top, 1))

    def test_beside_fractions(self):
        small, great = samples()
        for top, bottom in small + great:
            made = Ratio(top, bottom)
            told = Fraction(top, bottom)
            self.assertEqual(pair(made), (told.numerator, told.denominator))
            self.assertIs(type(made.top), int)
            self.assertIs(type(made.bottom), int)

    def test_over_nought_is_refused(self):
        for top in (0, 1, -1, BIG):
            with self.assertRaises(NoRatio):
                Ratio(top, 0)


class Telling(unittest.TestCase):
    def test_text(self):
        cases = [
            ((-3, 2), "-3/2"), ((7, 1), "7"), ((0, 1), "0"), ((0, -9), "0"), ((3, -2), "-3/2"), ((-3, -2), "3/2"),
            ((14, 2), "7"), ((-14, 2), "-7"), ((1, 10), "1/10"), ((10, 100), "1/10"), ((100, 3), "100/3"),
        ]
        for made_of, told in cases:
            with self.subTest(made_of=made_of):
                self.assertEqual(Ratio(made_of[0], made_of[1]).text(), told)

    def test_text_of_great_numbers(self):
        self.assertEqual(Ratio(-BIG, 3).text(), "-1" + "0" * 59 + "7/3")
        for many in (60, 63, 64, 65, 127, 128, 129, 299):
            self.assertEqual(Ratio(10 ** many).text(), "1" + "0" * many)
            self.assertEqual(Ratio(10 ** many - 1).text(), "9" * many)
            self.assertEqual(Ratio(-1, 10 ** many).text(), "-1/1" + "0" * many)
            self.assertEqual(Ratio(1 - 10 ** many).text(), "-" + "9" * many)

    def test_text_of_more_figures_than_python_writes_at_once(self):
        made = Ratio(-(10 ** 12000) - 1, 10 ** 9000)
        self.assertEqual(made.text(), "-1" + "0" * 11999 + "1/1" + "0" * 9000)
        self.assertEqual(Ratio(10 ** 12000).text(), "1" + "0" * 12000)

    def test_floor(self):
        cases = [
            ((7, 2), 3), ((-7, 2), -4), ((1, 2), 0), ((-1, 2), -1), ((0, 1), 0), ((6, 2), 3), ((-6, 2), -3),
            ((5, 1), 5), ((-5, 1), -5), ((1, 3), 0), ((2, 3), 0), ((-1, 3), -1), ((-2, 3), -1),
            ((BIG, 10), 10 ** 59), ((-BIG, 10), -10 ** 59 - 1), ((BIG, 10 ** 60), 1), ((1, BIG), 0), ((-1, BIG), -1),
        ]
        for made_of, told in cases:
            with self.subTest(made_of=made_of):
                self.assertEqual(Ratio(made_of[0], made_of[1]).floor(), told)

    def test_floor_beside_fractions(self):
        small, great = samples()
        for top, bottom in small + great:
            told = Ratio(top, bottom).floor()
            self.assertEqual(told, math.floor(Fraction(top, bottom)))
            self.assertIs(type(told), int)

    def test_sign(self):
        cases = [((0, 3), 0), ((1, 9), 1), ((-1, 9), -1), ((1, -9), -1), ((-1, -9), 1), ((5, 1), 1), ((-5, 1), -1),
                 ((1, BIG), 1), ((-1, BIG), -1), ((BIG, 1), 1), ((-BIG, 1), -1)]
        for made_of, told in cases:
            with self.subTest(made_of=made_of):
                said = Ratio(made_of[0], made_of[1]).sign()
                self.assertEqual(said, told)
                self.assertIs(type(said), int)


class Reckoning(unittest.TestCase):
    def look(self, one, other):
        first, second = Ratio(one[0], one[1]), Ratio(other[0], other[1])
        kept = (pair(first), pair(second))
        a, b = Fraction(one[0], one[1]), Fraction(other[0], other[1])
        told = [(first.plus(second), a + b), (first.minus(second), a - b), (first.times(second), a * b)]
        if b != 0:
            told.append((first.over(second), a / b))
        else:
            with self.assertRaises(ByNought):
                first.over(second)
        for said, asked in told:
            self.assertIsInstance(said, Ratio)
            self.assertEqual(pair(said), (asked.numerator, asked.denominator), (one, other))
        self.assertEqual(first.against(second), (a > b) - (a < b), (one, other))
        self.assertIs(type(first.against(second)), int)
        self.assertEqual((pair(first), pair(second)), kept)

    def test_small(self):
        small, _ = samples()
        for one in small[::3]:
            for other in small:
                self.look(one, other)

    def test_great(self):
        _, great = samples()
        for one in great:
            for other in great[:12] + [(0, 1), (1, 1), (-2, 3)]:
                self.look(one, other)
                self.look(other, one)

    def test_told_examples(self):
        half, third = Ratio(1, 2), Ratio(1, 3)
        self.assertEqual(pair(half.plus(third)), (5, 6))
        self.assertEqual(pair(half.minus(third)), (1, 6))
        self.assertEqual(pair(third.minus(half)), (-1, 6))
        self.assertEqual(pair(half.times(third)), (1, 6))
        self.assertEqual(pair(half.over(third)), (3, 2))
        self.assertEqual(pair(half.over(Ratio(-1, 3))), (-3, 2))
        self.assertEqual(pair(half.plus(half)), (1, 1))
        self.assertEqual(pair(half.minus(half)), (0, 1))

    def test_by_itself(self):
        for top, bottom in ((3, 7), (-3, 7), (BIG, BIGGER)):
            one = Ratio(top, bottom)
            self.assertEqual(pair(one.minus(one)), (0, 1))
            self.assertEqual(pair(one.over(one)), (1, 1))
            self.assertEqual(one.against(one), 0)
            self.assertEqual(pair(one), (top, bottom))

    def test_over_nought_is_refused(self):
        for top, bottom in ((0, 1), (1, 2), (-BIG, 3)):
            for nought in (Ratio(0), Ratio(0, -4), Ratio(1, 2).minus(Ratio(2, 4))):
                one = Ratio(top, bottom)
                with self.assertRaises(ByNought):
                    one.over(nought)
                self.assertEqual((pair(one), pair(nought)), ((top, bottom), (0, 1)))
        self.assertEqual(pair(Ratio(0).over(Ratio(-5, 3))), (0, 1))

    def test_against_very_near_ones(self):
        for top, bottom in ((0, 1), (1, 3), (-1, 3), (BIGGER, BIG), (-BIGGER, BIG), (7, 1)):
            one = Ratio(top, bottom)
            for small in (Ratio(1, 10 ** 60), Ratio(1, 10 ** 200)):
                above, below = one.plus(small), one.minus(small)
                self.assertEqual((one.against(above), above.against(one)), (-1, 1))
                self.assertEqual((one.against(below), below.against(one)), (1, -1))
                self.assertEqual((below.against(above), above.against(below)), (-1, 1))
                self.assertEqual(above.minus(small).against(one), 0)
                self.assertEqual(one.against(below.plus(small)), 0)

    def test_against_alike_ones_and_signs(self):
        self.assertEqual(Ratio(2, 4).against(Ratio(-3, -6)), 0)
        self.assertEqual(Ratio(0, 4).against(Ratio(0, -6)), 0)
        self.assertEqual(Ratio(BIG * 2, BIGGER * 2).against(Ratio(-BIG, -BIGGER)), 0)
        self.assertEqual(Ratio(-1, 2).against(Ratio(1, 2)), -1)
        self.assertEqual(Ratio(1, 2).against(Ratio(-1, 2)), 1)
        self.assertEqual(Ratio(-1, 2).against(Ratio(-1, 3)), -1)
        self.assertEqual(Ratio(BIG, BIG + 1).against(Ratio(BIG + 1, BIG + 2)), -1)
        self.assertEqual(Ratio(BIG + 1, BIG + 2).against(Ratio(BIG, BIG + 1)), 1)

    def test_telling_changes_nothing(self):
        one = Ratio(-9, 6)
        for _ in range(2):
            self.assertEqual((one.text(), one.floor(), one.sign()), ("-3/2", -2, -1))
            self.assertEqual(pair(one), (-3, 2))


if __name__ == "__main__":
    unittest.main()
