"""The least polynomial of a root: of degree one or two where there is such a one."""

from rootspan.cells import bound, cells, narrowed
from rootspan.factors import divides
from rootspan.polys import degree, plain, sign_at
from rootspan.ratios import Ratio
from rootspan.spans import span_product
from rootspan.sturm import count, row_of


def least(row, low, high):
    whole = plain(row)
    if degree(whole) < 2:
        return whole
    width = fine_width(whole)
    span = narrowed(whole, low, high, width)
    line = line_of(whole, span)
    if line != []:
        return line
    if degree(whole) == 2:
        return whole
    # A root of a polynomial of degree two that is no fraction has its other root among the real roots of P.
    for cell in cells(whole):
        square = square_of(whole, span, narrowed(whole, cell[0], cell[1], width))
        if divides(square, whole) and count(row_of(square), low, high) == 1:
            return square
    return whole


# Where a polynomial with whole coefficients divides P, the last coefficient of P times each coefficient of its
# monic one is whole. So narrow that, for two roots in such spans, their sum and their product times it are each
# less than 1 below what the spans' ends tell.
def fine_width(whole):
    return Ratio(1, 8 * whole[-1] * bound(whole))


# [] where the root isn't a fraction: of those with the last coefficient as bottom one at most lies in the span.
def line_of(whole, span):
    found = Ratio(times_floor(whole[-1], span[1]), whole[-1])
    if found.against(span[0]) > 0 and sign_at(whole, found) == 0:
        return [-found.top, found.bottom]
    return []


# The one polynomial of degree two that may have both roots; whether it has is still to be looked at.
def square_of(whole, span, other):
    last = whole[-1]
    together = times_floor(last, span[1].plus(other[1]))
    return plain([times_floor(last, span_product(span, other)[1]), -together, last])


def times_floor(factor, ratio):
    return Ratio(factor).times(ratio).floor()
