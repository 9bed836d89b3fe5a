"""Polynomials: lists of whole numbers, at place k the coefficient of x^k, the last one not 0."""

from rootspan.ratios import Ratio, shared, whole_sign


def poly(row):
    length = len(row)
    while length > 0 and row[length - 1] == 0:
        length = length - 1
    return row[:length]


def degree(row):
    return len(row) - 1


def added(first, second):
    length = max(len(first), len(second))
    return poly([coefficient(first, k) + coefficient(second, k) for k in range(length)])


def taken(first, second):
    length = max(len(first), len(second))
    return poly([coefficient(first, k) - coefficient(second, k) for k in range(length)])


def coefficient(row, place):
    if place < len(row):
        return row[place]
    return 0


def multiplied(first, second):
    if first == [] or second == []:
        return []
    product = [0] * (len(first) + len(second) - 1)
    for j, one in enumerate(first):
        for k, other in enumerate(second):
            product[j + k] = product[j + k] + one * other
    return product


def slope(row):
    return [k * row[k] for k in range(1, len(row))]


def turned(row):
    return [value if k % 2 == 0 else -value for k, value in enumerate(row)]


def flipped(row):
    return poly(list(reversed(row)))


def lifted(row, k):
    if row == []:
        return []
    spread = [0] * (k * degree(row) + 1)
    for place, value in enumerate(row):
        spread[k * place] = value
    return spread


def shrunk(row):
    divisor = shared(row)
    return [value // divisor for value in row]


def plain(row):
    small = shrunk(row)
    if small != [] and small[-1] < 0:
        return [-value for value in small]
    return small


# The value at top / bottom as whole numbers, the second above 0 where bottom is, not in lowest terms:
# the sign alone needs no more.
def value_parts(row, top, bottom):
    above = 0
    below = 1
    for value in reversed(row):
        below = below * bottom
        above = above * top + value * below
    return (above, below)


def value_at(row, ratio):
    parts = value_parts(row, ratio.top, ratio.bottom)
    return Ratio(parts[0], parts[1])


def sign_at(row, ratio):
    return whole_sign(value_parts(row, ratio.top, ratio.bottom)[0])
