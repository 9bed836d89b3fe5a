"""Division of polynomials without fractions: P is multiplied ahead, so that all stays whole."""

from rootspan.errors import ByNought
from rootspan.polys import degree, poly
from rootspan.ratios import whole_sign


def divided(first, second):
    if second == []:
        raise ByNought()
    size = abs(second[-1])
    sign = whole_sign(second[-1])
    steps = degree(first) - degree(second) + 1
    factor = 1
    quotient = [0] * steps
    rest = list(first)
    # A step whose highest term is 0 multiplies too: the factor's power hangs on the degrees alone.
    for place in range(steps - 1, -1, -1):
        lead = sign * rest[-1]
        factor = factor * size
        quotient = scaled(quotient, size)
        quotient[place] = lead
        rest = lowered(scaled(rest, size), second, place, lead)
    return (factor, quotient, poly(rest))


def scaled(row, factor):
    return [factor * value for value in row]


# The highest term goes out with this; it is dropped without being reckoned.
def lowered(row, second, place, lead):
    kept = row[:-1]
    for k, value in enumerate(second[:-1]):
        kept[place + k] = kept[place + k] - lead * value
    return kept
