"""Partial quotients: whole numbers, each the floor of what the one ahead of it left over, turned upside down."""

from rootspan.numbers import span_of
from rootspan.polys import degree
from rootspan.ratios import Ratio


def quotients(one, many):
    if degree(one.poly) == 1:
        return ratio_quotients(Ratio(-one.poly[0], one.poly[1]))[:many]
    width = Ratio(1, 4)
    found = between(one, width)
    while len(found) < many:
        width = width.times(width)
        found = between(one, width)
    return found[:many]


# What both ends of a span have in common, the worth has too: each floor is the same for all that lies between.
def between(one, width):
    span = span_of(one, width)
    found = []
    for first, second in zip(ratio_quotients(span[0]), ratio_quotients(span[1])):
        if first != second:
            return found
        found.append(first)
    return found


def ratio_quotients(ratio):
    found = []
    top = ratio.top
    bottom = ratio.bottom
    while bottom != 0:
        found.append(top // bottom)
        rest = top % bottom
        top = bottom
        bottom = rest
    return found
