"""What divides what: common parts, parts, and the layers of roots that come once, twice, and so on."""

from rootspan.division import divided
from rootspan.errors import NoPart
from rootspan.polys import degree, plain, slope


def divides(divisor, row):
    return divided(row, divisor)[2] == []


# Each rest is made plain, since its coefficients would grow out of hand otherwise.
def common(first, second):
    one = plain(first)
    other = plain(second)
    while other != []:
        rest = plain(divided(one, other)[2])
        one = other
        other = rest
    return one


def part(row, divisor):
    found = divided(row, divisor)
    if found[2] != []:
        raise NoPart()
    return plain(found[1])


def without_squares(row):
    if row == []:
        return []
    return part(row, common(row, slope(row)))


# At step k, left holds each root that comes k times or more, once; more holds what each has beyond k.
def layers(row):
    found = []
    if row == []:
        return found
    more = common(row, slope(row))
    left = part(row, more)
    k = 1
    while degree(left) > 0:
        deeper = common(left, more)
        layer = part(left, deeper)
        if degree(layer) > 0:
            found.append((layer, k))
        left = deeper
        more = part(more, deeper)
        k = k + 1
    return found
