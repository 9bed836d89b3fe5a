"""Trees of parts: each part has a worth, which is a Number, and a text that is read to a like tree again."""

from rootspan.errors import NoName
from rootspan.numbers import fraction, number
from rootspan.polys import degree
from rootspan.ratios import Ratio, whole_text
from rootspan.reckon import minus, opposite, over, plus, power, root, times


class Part:
    pass


class Whole(Part):
    def __init__(self, value):
        self.value = value

    def worth(self, known=None):
        return fraction(Ratio(self.value))

    def text(self):
        return whole_text(self.value)


class Given(Part):
    def __init__(self, row, low, high):
        self.poly = list(row)
        self.low = low
        self.high = high

    def worth(self, known=None):
        return number(self.poly, self.low, self.high)

    def text(self):
        return "root(" + poly_text(self.poly) + ", " + self.low.text() + ".." + self.high.text() + ")"


class Named(Part):
    def __init__(self, word):
        self.word = word

    def worth(self, known=None):
        if known is None or self.word not in known:
            raise NoName(self.word)
        return known[self.word]

    def text(self):
        return self.word


class Minus(Part):
    def __init__(self, one):
        self.one = one

    def worth(self, known=None):
        return opposite(self.one.worth(known))

    def text(self):
        return "-" + within(self.one, is_atom(self.one) or isinstance(self.one, Power))


class Sum(Part):
    def __init__(self, one, other):
        self.one = one
        self.other = other

    def worth(self, known=None):
        return plus(self.one.worth(known), self.other.worth(known))

    def text(self):
        return self.one.text() + " + " + within(self.other, not is_sum(self.other))


class Less(Part):
    def __init__(self, one, other):
        self.one = one
        self.other = other

    def worth(self, known=None):
        return minus(self.one.worth(known), self.other.worth(known))

    def text(self):
        return self.one.text() + " - " + within(self.other, not is_sum(self.other))


class Times(Part):
    def __init__(self, one, other):
        self.one = one
        self.other = other

    def worth(self, known=None):
        return times(self.one.worth(known), self.other.worth(known))

    def text(self):
        return product_text(self.one, "*", self.other)


class Over(Part):
    def __init__(self, one, other):
        self.one = one
        self.other = other

    def worth(self, known=None):
        return over(self.one.worth(known), self.other.worth(known))

    def text(self):
        return product_text(self.one, "/", self.other)


class Power(Part):
    def __init__(self, one, exponent):
        self.one = one
        self.power = exponent

    def worth(self, known=None):
        return power(self.one.worth(known), self.power)

    def text(self):
        return within(self.one, is_atom(self.one)) + "^" + whole_text(self.power)


class Rooted(Part):
    def __init__(self, one, exponent):
        self.one = one
        self.power = exponent

    def worth(self, known=None):
        return root(self.one.worth(known), self.power)

    def text(self):
        word = "sqrt" if self.power == 2 else "cbrt"
        return word + within(self.one, False)


def within(tree, bare):
    if bare:
        return tree.text()
    return "(" + tree.text() + ")"


def is_sum(tree):
    return isinstance(tree, Sum) or isinstance(tree, Less)


def is_product(tree):
    return isinstance(tree, Times) or isinstance(tree, Over)


def is_atom(tree):
    return (isinstance(tree, Whole) or isinstance(tree, Named) or isinstance(tree, Given)
            or isinstance(tree, Rooted))


def product_text(one, mark, other):
    ahead = within(one, not is_sum(one))
    return ahead + mark + within(other, not is_sum(other) and not is_product(other))


def poly_text(row):
    if row == []:
        return "0"
    found = "-" if row[-1] < 0 else ""
    found = found + term_text(abs(row[-1]), degree(row))
    for place in range(degree(row) - 1, -1, -1):
        if row[place] != 0:
            found = found + (" - " if row[place] < 0 else " + ") + term_text(abs(row[place]), place)
    return found


def term_text(size, place):
    if place == 0:
        return whole_text(size)
    end = "x" if place == 1 else "x^" + whole_text(place)
    if size == 1:
        return end
    return whole_text(size) + "*" + end
