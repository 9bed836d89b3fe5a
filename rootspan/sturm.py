"""Rows of polynomials whose changes of sign count the roots between two fractions."""

from rootspan.division import divided
from rootspan.polys import shrunk, sign_at, slope, taken


def row_of(polynomial):
    return row_from(polynomial, slope(polynomial))


# The second one need not be the slope: with the slope times a polynomial Q the count between two
# fractions that are no roots adds up Q's signs at the roots.
def row_from(first, second):
    row = []
    one = shrunk(first)
    other = shrunk(second)
    while one != []:
        row.append(one)
        rest = [] if other == [] else divided(one, other)[2]
        one = other
        other = shrunk(taken([], rest))
    return row


def changes(row, ratio):
    many = 0
    before = 0
    for polynomial in row:
        sign = sign_at(polynomial, ratio)
        if sign * before < 0:
            many = many + 1
        if sign != 0:
            before = sign
    return many


def count(row, low, high):
    return changes(row, low) - changes(row, high)
