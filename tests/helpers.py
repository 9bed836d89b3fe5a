"""What several test files need: roots known ahead, polynomials built of known factors, and a look at whose a list is."""

import unittest
from fractions import Fraction
from math import ceil, floor, gcd

from rootspan.errors import RootError
from rootspan.factors import without_squares
from rootspan.numbers import Number
from rootspan.parts import Part
from rootspan.ratios import Ratio
from rootspan.sturm import count, row_of

# Plain, none of them a product of two others over the fractions, no two alike; three have no real root.
PRIMES = [
    [0, 1], [-1, 1], [1, 2], [-2, 3], [1, 0, 1], [-2, 0, 1], [3, 1, 1], [-1, -1, 0, 1], [2, 0, 0, 5], [1, 0, 0, 0, 1],
]
GREAT = [7 * 10 ** 38 + 3, -(10 ** 39 + 9), 0, 10 ** 39 + 57]


def ratio(fraction):
    return Ratio(Fraction(fraction).numerator, Fraction(fraction).denominator)


def worth(told):
    return Fraction(told.top, told.bottom)


def span(pair):
    return (worth(pair[0]), worth(pair[1]))


def product(*rows):
    found = [1]
    for row in rows:
        if not row:
            return []
        terms = [0] * (len(found) + len(row) - 1)
        for j, one in enumerate(found):
            for k, other in enumerate(row):
                terms[j + k] += one * other
        found = terms
    return found


def raised(row, power):
    return product(*[row] * power)


def scaled(row, factor):
    return [factor * value for value in row]


def value(row, at):
    return sum((c * at ** k for k, c in enumerate(row)), Fraction(0))


def sign(number):
    return (number > 0) - (number < 0)


def plain_of(row):
    divisor = gcd(*row) if row else 1
    return [c // divisor * (1 if row[-1] > 0 else -1) for c in row]


# PRIMES to the powers told, times a constant.
def built(powers, factor=1):
    return scaled(product(*[raised(prime, k) for prime, k in zip(PRIMES, powers)]), factor)


def line(fraction):
    return [-Fraction(fraction).numerator, Fraction(fraction).denominator]


# A determinant by another way than the program's: elimination with fractions.
def by_fractions(rows):
    left = [[Fraction(c) for c in row] for row in rows]
    found = Fraction(1)
    for k in range(len(left)):
        at = next((j for j in range(k, len(left)) if left[j][k] != 0), None)
        if at is None:
            return 0
        if at != k:
            left[k], left[at] = left[at], left[k]
            found = -found
        found *= left[k][k]
        for j in range(k + 1, len(left)):
            factor = left[j][k] / left[k][k]
            left[j] = [one - factor * other for one, other in zip(left[j], left[k])]
    return found


class Known:
    """A real root that is known: shift + way * (the power-th root of below), below a fraction from 0 on."""

    def __init__(self, shift, way=0, below=0, power=2):
        self.shift, self.way, self.below, self.power = Fraction(shift), way, Fraction(below), power

    def above(self, at):
        beside = Fraction(at) - self.shift
        reach = self.way * self.below
        return reach > sign(beside) * abs(beside) ** self.power

    def within(self, low, high):
        return self.above(low) and not self.above(high)

    # Of degree one or the root's power, over the whole numbers.
    def row(self):
        if self.way == 0:
            return line(self.shift)
        terms = raised(line(self.shift), self.power)
        end = Fraction(self.way ** self.power) * self.below * self.shift.denominator ** self.power
        terms = [Fraction(c) for c in terms]
        terms[0] -= end
        size = terms[0].denominator
        return plain_of([int(c * size) for c in terms])


# The greatest whole number whose power is not above the whole number, which is from 0 on.
def whole_root(number, power):
    low, high = 0, 1 << (number.bit_length() // power + 1)
    while high - low > 1:
        half = (low + high) // 2
        low, high = (half, high) if half ** power <= number else (low, half)
    return low


class Enclosed:
    """A real number between two fractions that are very near each other: another way to it than the program's."""

    fine = 10 ** 100

    def __init__(self, low, high=None):
        self.low = Fraction(low)
        self.high = self.low if high is None else Fraction(high)

    # Rounded outward, so that the ends stay short; fractions that are exact stay so.
    def near(self):
        if self.low == self.high:
            return self
        return Enclosed(Fraction(floor(self.low * self.fine), self.fine), Fraction(ceil(self.high * self.fine), self.fine))

    def plus(self, other):
        return Enclosed(self.low + other.low, self.high + other.high).near()

    def opposite(self):
        return Enclosed(-self.high, -self.low)

    def minus(self, other):
        return self.plus(other.opposite())

    def times(self, other):
        ends = [one * two for one in (self.low, self.high) for two in (other.low, other.high)]
        return Enclosed(min(ends), max(ends)).near()

    def over(self, other):
        assert other.low > 0 or other.high < 0
        return self.times(Enclosed(1 / other.high, 1 / other.low))

    def power(self, k):
        found = Enclosed(1)
        for _ in range(k):
            found = found.times(self)
        return found

    def root(self, k):
        if self.high <= 0 and k % 2:
            return self.opposite().root(k).opposite() if self.low < 0 else self
        low, high = [Fraction(whole_root(floor(end * self.fine ** k), k), self.fine) for end in (self.low, self.high)]
        if low ** k == self.low and high ** k == self.high:
            return Enclosed(low, high)
        return Enclosed(low, high + Fraction(1, self.fine))

    def within(self, low, high):
        return low < self.low and self.high <= high


def rational(*roots):
    return [Known(root) for root in roots]


# Both square roots, so that they are all the real roots of the one row.
def squares(shift, below):
    return [Known(shift, -1, below), Known(shift, 1, below)]


# The product of the roots' rows, each row once.
def row_with(roots, others=()):
    rows = list(others)
    for root in roots:
        if root.row() not in rows:
            rows.append(root.row())
    return product(*rows)


# Of a Number that is given, the span is left out: which one it has is not promised.
def shown(thing, spans=False):
    if isinstance(thing, Ratio):
        return ("ratio", thing.top, thing.bottom)
    if isinstance(thing, (list, tuple)):
        return (type(thing).__name__, [shown(one, spans) for one in thing])
    if isinstance(thing, dict):
        return ("dict", [(key, shown(one, spans)) for key, one in thing.items()])
    if isinstance(thing, Part):
        return (type(thing).__name__, sorted((key, shown(one, True)) for key, one in vars(thing).items()))
    if isinstance(thing, Number):
        return ("number", list(thing.poly), [shown(end) for end in (thing.low, thing.high) if spans])
    return (type(thing).__name__, thing)


# Changes each list and dict that is in a thing, but those in fields, which are only read.
def scramble(thing):
    if isinstance(thing, (list, tuple)):
        for one in thing:
            scramble(one)
    if isinstance(thing, list):
        if thing and isinstance(thing[0], int):
            thing[0] += 1
        elif thing:
            thing.pop()
        thing.append(97)
    if isinstance(thing, dict):
        for key in list(thing):
            thing[key] = Number([-97, 1], Ratio(0), Ratio(100))
        thing["other"] = Number([-98, 1], Ratio(0), Ratio(100))


# Promise 2: what is handed in stays, what is given is the asker's own. Make gives the arguments anew.
def look_at_sharing(test, call, make):
    lists = make()
    before = shown(lists, True)
    said = call(*lists)
    told = shown(said)
    test.assertEqual(shown(lists, True), before)
    scramble(said)
    test.assertEqual(shown(lists, True), before)
    again = call(*lists)
    test.assertEqual(shown(again), told)
    test.assertEqual(shown(lists, True), before)
    scramble(lists)
    test.assertEqual(shown(again), told)
    test.assertEqual(shown(call(*make())), told)


class NumberCase(unittest.TestCase):
    # Promise 20, of a Number with that poly and that worth.
    def look(self, said, told, root):
        self.assertIs(type(said), Number)
        self.assertIs(type(said.poly), list)
        self.assertEqual(said.poly, told)
        self.assertEqual(plain_of(told), told)
        self.assertEqual(without_squares(told), told)
        self.assertTrue(1 <= len(told) - 1 <= 8)
        self.assertEqual([type(end) for end in (said.low, said.high)], [Ratio, Ratio])
        low, high = span((said.low, said.high))
        self.assertLess(low, high)
        self.assertNotEqual(value(told, low), 0)
        self.assertEqual(count(row_of(told), said.low, said.high), 1)
        self.assertTrue(root.within(low, high))

    def refused(self, kind, call, *given):
        with self.assertRaises(RootError) as caught:
            call(*given)
        self.assertIs(type(caught.exception), kind, given)
        return caught.exception
