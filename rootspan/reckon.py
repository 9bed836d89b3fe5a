"""Reckoning with Numbers: opposites, inverses, sums, products, powers and roots, each with its poly and a new span."""

from rootspan.cells import bound, middle
from rootspan.errors import BelowNought, ByNought
from rootspan.factors import without_squares
from rootspan.numbers import Number, against, fraction, narrow, number_in, refuse_great, refuse_high, sign_of, span_of
from rootspan.polys import degree, flipped, lifted, plain, turned
from rootspan.ratios import Ratio
from rootspan.resultants import powers, products, sums
from rootspan.spans import span_power, span_product, span_sum
from rootspan.sturm import count, row_of


def opposite(one):
    row = plain(turned(one.poly))
    if degree(row) == 1:
        return only_root(row)
    return Number(row, Ratio(0).minus(one.high), Ratio(0).minus(one.low))


def inverse(one):
    if sign_of(one) == 0:
        raise ByNought()
    row = plain(flipped(one.poly))
    if degree(row) == 1:
        return only_root(row)
    clear = off_nought(one)
    return Number(row, Ratio(1).over(clear.high), Ratio(1).over(clear.low))


# A fraction may lie at its span's high, and a span that is turned round would leave it out; no other number does.
def only_root(row):
    worth = Ratio(-row[0], row[1])
    return Number(row, worth.minus(Ratio(1)), worth)


def off_nought(one):
    clear = one
    while clear.low.sign() * clear.high.sign() <= 0:
        clear = narrow(clear, clear.high.minus(clear.low).times(Ratio(1, 2)))
    return clear


def plus(first, second):
    refuse_high(degree(first.poly) * degree(second.poly))
    simple = without_squares(sums(first.poly, second.poly))
    return found_between(simple, lambda width: span_sum(span_of(first, width), span_of(second, width)))


def minus(first, second):
    return plus(first, opposite(second))


def times(first, second):
    refuse_high(degree(first.poly) * degree(second.poly))
    simple = without_squares(products(first.poly, second.poly))
    return found_between(simple, lambda width: span_product(span_of(first, width), span_of(second, width)))


def over(first, second):
    return times(first, inverse(second))


def power(one, k):
    if k == 0:
        return fraction(Ratio(1))
    simple = without_squares(powers(one.poly, k))
    return found_between(simple, lambda width: span_power(span_of(one, width), k))


def root(one, k):
    if k % 2 == 0 and sign_of(one) < 0:
        raise BelowNought()
    refuse_high(k * degree(one.poly))
    simple = without_squares(lifted(one.poly, k))
    refuse_great(simple)
    return found_beyond(simple, row_of(simple), lambda cut: root_beyond(one, k, cut))


# Whether the k-th root is greater than the cut. For an even k no cut is below 0, where powers would fall: the first
# one is 0, and the root that is meant is above it.
def root_beyond(one, k, cut):
    raised = Ratio(1)
    for step in range(k):
        raised = raised.times(cut)
    return against(one, raised) > 0


# Ends tells, of a width, the ends between which the worth lies when the numbers it is made of are narrowed so far.
# The worth may be the lower one of them, so this is set back. Each width is the last one squared: it soon gets
# narrow enough, and the narrowing, which begins anew each time, costs little more than its last round.
def found_between(simple, ends):
    refuse_great(simple)
    chain = row_of(simple)
    width = Ratio(1, 4)
    span = set_back(ends(width), width)
    while count(chain, span[0], span[1]) != 1:
        width = width.times(width)
        span = set_back(ends(width), width)
    return found_beyond(simple, chain, lambda cut: span_beyond(chain, span, cut))


def set_back(span, width):
    return (span[0].minus(width), span[1])


# Whether the one root in the span is greater than the cut.
def span_beyond(chain, span, cut):
    return cut.against(span[0]) <= 0 or count(chain, span[0], cut) == 0


# The span is told anew, by halving from the bound on: its ends have few figures, however it was reckoned.
def found_beyond(simple, chain, beyond):
    high = Ratio(bound(simple))
    low = Ratio(-bound(simple))
    while count(chain, low, high) != 1:
        cut = middle(low, high)
        if beyond(cut):
            low = cut
        else:
            high = cut
    return number_in(simple, low, high)
