"""Papers: what must be written down so that a looker can see that a root or an order is as told."""

from rootspan.division import divided
from rootspan.factors import common
from rootspan.numbers import compare, span_of
from rootspan.ratios import Ratio, shared
from rootspan.sturm import row_of


def root_paper(one):
    row = row_of(one.poly)
    return (row, [link_of(row[k], row[k + 1]) for k in range(len(row) - 2)])


def link_of(first, second):
    found = divided(first, second)
    return (found[0], found[1], shared(found[2]))


def order_paper(first, second):
    order = compare(first, second)
    if order == 0:
        return alike_paper(first, second)
    if order < 0:
        spans = set_apart(first, second)
        return ("under", spans[0], spans[1], spans[2], spans[3])
    spans = set_apart(second, first)
    return ("over", spans[2], spans[3], spans[0], spans[1])


# Both have the worth in their spans, so it lies in what the spans have in common; there it is the only root of
# the common part.
def alike_paper(first, second):
    low = first.low if first.low.against(second.low) > 0 else second.low
    high = first.high if first.high.against(second.high) < 0 else second.high
    return ("alike", common(first.poly, second.poly), low, high)


def set_apart(less, greater):
    width = Ratio(1, 4)
    one = span_of(less, width)
    other = span_of(greater, width)
    while one[1].against(other[0]) > 0:
        width = width.times(width)
        one = span_of(less, width)
        other = span_of(greater, width)
    return (one[0], one[1], other[0], other[1])
