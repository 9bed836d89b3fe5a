"""Whole numbers' shared divisor, and fractions in lowest terms."""

from rootspan.errors import ByNought, NoRatio


def shared(row):
    divisor = 0
    for value in row:
        divisor = shared_by_two(divisor, value)
    return divisor


def shared_by_two(one, other):
    greater = abs(one)
    less = abs(other)
    while less != 0:
        rest = greater % less
        greater = less
        less = rest
    return greater


def whole_sign(value):
    if value < 0:
        return -1
    if value > 0:
        return 1
    return 0


# Python's own str refuses numbers of some thousand figures, and a polynomial's value can have more;
# so the figures are written 64 at a time.
def whole_text(value):
    chunk = 10 ** 64
    rest = abs(value)
    pieces = []
    while rest >= chunk:
        pieces.append(str(rest % chunk).zfill(64))
        rest = rest // chunk
    pieces.append(str(rest))
    if value < 0:
        pieces.append("-")
    pieces.reverse()
    return "".join(pieces)


class Ratio:
    def __init__(self, top, bottom=1):
        if bottom == 0:
            raise NoRatio()
        divisor = shared_by_two(top, bottom)
        # The divisor takes the bottom's sign, so that the bottom comes out above 0.
        if bottom < 0:
            divisor = -divisor
        self.top = top // divisor
        self.bottom = bottom // divisor

    def plus(self, other):
        return Ratio(self.top * other.bottom + other.top * self.bottom, self.bottom * other.bottom)

    def minus(self, other):
        return Ratio(self.top * other.bottom - other.top * self.bottom, self.bottom * other.bottom)

    def times(self, other):
        return Ratio(self.top * other.top, self.bottom * other.bottom)

    def over(self, other):
        if other.top == 0:
            raise ByNought()
        return Ratio(self.top * other.bottom, self.bottom * other.top)

    def against(self, other):
        return whole_sign(self.top * other.bottom - other.top * self.bottom)

    def sign(self):
        return whole_sign(self.top)

    def floor(self):
        return self.top // self.bottom

    def text(self):
        if self.bottom == 1:
            return whole_text(self.top)
        return whole_text(self.top) + "/" + whole_text(self.bottom)
