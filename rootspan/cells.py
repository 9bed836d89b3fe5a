"""Spans that hold one root: found by halving from the bound on, and narrowed by halving."""

from rootspan.polys import added, degree, multiplied, poly, sign_at
from rootspan.ratios import Ratio, shared, whole_sign
from rootspan.sturm import changes, row_of


def bound(row):
    last = abs(row[-1])
    greatest = max([abs(value) for value in row[:-1]], default=0)
    size = 1
    while (size - 1) * last < greatest:
        size = 2 * size
    return size


# Each waiting cell has the row's changes at its ends with it, so that none is counted twice.
def cells(row):
    if degree(row) < 1:
        return []
    chain = row_of(row)
    high = Ratio(bound(row))
    low = Ratio(-bound(row))
    waiting = [(low, high, changes(chain, low), changes(chain, high))]
    found = []
    while len(waiting) > 0:
        cell = waiting.pop()
        many = cell[2] - cell[3]
        if many == 1:
            found.append((cell[0], cell[1]))
        if many > 1:
            cut = middle(cell[0], cell[1])
            there = changes(chain, cut)
            waiting.append((cut, cell[1], there, cell[3]))
            waiting.append((cell[0], cut, cell[2], there))
    return found


def middle(low, high):
    return Ratio(low.top * high.bottom + high.top * low.bottom, 2 * low.bottom * high.bottom)


def narrowed(row, low, high, width):
    reach = high.minus(low)
    steps = halvings(reach, width)
    if steps == 0:
        return (low, high)
    found = halved(stretched(row, low, reach), sign_at(row, high), steps)
    return (along(low, reach, found[0], found[1]), along(low, reach, found[0] + 1, found[1]))


def halvings(reach, width):
    wide = reach.top * width.bottom
    goal = width.top * reach.bottom
    steps = 0
    while wide > goal:
        goal = 2 * goal
        steps = steps + 1
    return steps


# P at low + t * reach, times a whole number above 0, as a polynomial in t: on the span from 0 to 1
# the cuts are whole numbers over a power of two, and no fraction must be brought to lowest terms.
def stretched(row, low, reach):
    bottom = low.bottom * reach.bottom // shared([low.bottom, reach.bottom])
    start = low.top * (bottom // low.bottom)
    step = reach.top * (bottom // reach.bottom)
    found = []
    power = 1
    for value in reversed(row):
        found = added(multiplied(found, [start, step]), poly([value * power]))
        power = power * bottom
    return found


# The sign at low is not asked, since low may be another root; end is the sign at the high of each half. The
# polynomial is brought to the half each time, which takes sums alone: to reckon its value anew at each cut would
# multiply ever greater numbers.
def halved(row, end, steps):
    place = 0
    pieces = 1
    ahead = end
    left = row
    for k in range(steps):
        place = 2 * place
        pieces = 2 * pieces
        left = spread(left)
        there = whole_sign(sum(left))
        if there != 0 and there != ahead:
            place = place + 1
            left = moved(left)
        else:
            ahead = there
    return (place, pieces)


# P at t / 2, times 2 to the power of its degree: what lay at the middle of the span from 0 to 1 lies at 1.
def spread(row):
    found = []
    factor = 1
    for value in reversed(row):
        found.append(factor * value)
        factor = 2 * factor
    found.reverse()
    return found


# P at t + 1.
def moved(row):
    found = list(row)
    for start in range(degree(row)):
        for k in range(degree(row) - 1, start - 1, -1):
            found[k] = found[k] + found[k + 1]
    return found


def along(low, reach, place, pieces):
    return low.plus(reach.times(Ratio(place, pieces)))
