"""Numbers: real roots, each told by a polynomial and a span in which it is the only root."""

from rootspan.cells import bound, cells, narrowed
from rootspan.errors import NoRoot, TooGreat, TooHigh
from rootspan.factors import without_squares
from rootspan.least import least
from rootspan.polys import degree, multiplied, sign_at, slope
from rootspan.ratios import Ratio
from rootspan.sturm import count, row_from, row_of

HIGHEST = 8


class Number:
    def __init__(self, row, low, high):
        self.poly = list(row)
        self.low = low
        self.high = high


def number(row, low=None, high=None):
    refuse_high(degree(row))
    if degree(row) < 1:
        raise NoRoot(0)
    start = Ratio(-bound(row)) if low is None else low
    end = Ratio(bound(row)) if high is None else high
    simple = without_squares(row)
    many = many_within(simple, start, end)
    if many != 1:
        raise NoRoot(many)
    refuse_great(simple)
    return number_in(simple, start, end)


def refuse_high(height):
    if height > HIGHEST:
        raise TooHigh(height)


def refuse_great(row):
    limit = 10 ** 60 * 10 ** 60
    if any([abs(value) >= limit for value in row]):
        raise TooGreat()


def many_within(simple, low, high):
    if low.against(high) >= 0:
        return 0
    return count(row_of(simple), low, high)


# Low may be a root of the least, though not the one that is meant; the span is halved until it isn't.
def number_in(simple, low, high):
    row = least(simple, low, high)
    span = (low, high)
    while sign_at(row, span[0]) == 0:
        half = span[1].minus(span[0]).times(Ratio(1, 2))
        span = narrowed(row, span[0], span[1], half)
    return Number(row, span[0], span[1])


def fraction(ratio):
    return number([-ratio.top, ratio.bottom])


def roots(row):
    refuse_high(degree(row))
    simple = without_squares(row)
    refuse_great(simple)
    return [number_in(simple, cell[0], cell[1]) for cell in cells(simple)]


def narrow(one, width):
    span = span_of(one, width)
    return Number(one.poly, span[0], span[1])


def span_of(one, width):
    return narrowed(one.poly, one.low, one.high, width)


def against(one, ratio):
    if ratio.against(one.low) <= 0:
        return 1
    if ratio.against(one.high) > 0:
        return -1
    return beside(one, sign_at(one.poly, ratio))


# Against a point in the span, of which only the poly's sign there is known: the poly has one root in the span,
# a simple one, so it keeps its sign from the worth up to high.
def beside(one, sign):
    if sign == 0:
        return 0
    if sign == sign_at(one.poly, one.high):
        return -1
    return 1


# Nothing is narrowed, however near the two are.
def compare(first, second):
    if against(first, second.low) <= 0:
        return -1
    if against(first, second.high) > 0:
        return 1
    return -beside(second, side(second.poly, first))


def sign_of(one):
    return against(one, Ratio(0))


# The count adds up the signs at all roots in the span, of which the worth is the only one; it holds only
# where neither end is a root.
def side(row, one):
    if sign_at(one.poly, one.high) == 0:
        return sign_at(row, one.high)
    return count(row_from(one.poly, multiplied(slope(one.poly), row)), one.low, one.high)


def ordered(numbers):
    found = []
    for one in numbers:
        found.insert(place_in(found, one), one)
    return found


# Behind all that are not greater, so that alike ones stay in the order in which they came.
def place_in(found, one):
    first = 0
    last = len(found)
    while first < last:
        half = (first + last) // 2
        if compare(one, found[half]) < 0:
            last = half
        else:
            first = half + 1
    return first
