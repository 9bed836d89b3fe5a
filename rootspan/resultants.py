"""Resultants, and by them the polynomials of sums, products and powers of roots."""

from rootspan.determinants import determinant
from rootspan.polys import added, degree, multiplied, plain, poly


def resultant(first, second):
    if first == [] or second == []:
        return 0
    return determinant(table(first, second))


# Of two lists that may have noughts at the end: their lengths tell the degrees.
def table(first, second):
    return slid(first, degree(second)) + slid(second, degree(first))


def slid(row, many):
    falling = list(reversed(row))
    return [[0] * k + falling + [0] * (many - 1 - k) for k in range(many)]


# Each of these is, for each whole number x, the resultant of P and of a polynomial in y that hangs on x.
# It is reckoned at as many x as there are coefficients to be found, and the polynomial is laid through.
def sums(first, second):
    many = degree(first) * degree(second) + 1
    return plain(through([determinant(table(first, opposed(second, x))) for x in range(many)]))


def products(first, second):
    many = degree(first) * degree(second) + 1
    return plain(through([determinant(table(first, weighted(second, x))) for x in range(many)]))


def powers(row, k):
    many = degree(row) + 1
    return plain(through([determinant(table(row, [x] + [0] * (k - 1) + [-1])) for x in range(many)]))


# Q(x - y), a polynomial in y.
def opposed(row, x):
    found = []
    for value in reversed(row):
        found = added(multiplied(found, [x, -1]), poly([value]))
    return found


# Q(x / y) times y^n, a polynomial in y: its last coefficient may be 0, and it counts as of degree n all the same,
# since the resultant is then the same product over P's roots for each x.
def weighted(row, x):
    found = []
    power = 1
    for value in row:
        found.append(value * power)
        power = power * x
    return list(reversed(found))


# The polynomial with whole coefficients, of a degree less than the values are many, that has these values
# at 0, 1, 2 ..: Newton's differences; over whole coefficients each of these divisions comes out whole.
def through(values):
    leads = []
    left = list(values)
    while len(left) > 0:
        leads.append(left[0])
        left = [(left[j + 1] - left[j]) // len(leads) for j in range(len(left) - 1)]
    found = []
    for k in range(len(leads) - 1, -1, -1):
        found = added(multiplied(found, [-k, 1]), poly([leads[k]]))
    return found
