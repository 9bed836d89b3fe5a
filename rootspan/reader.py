"""Texts read into trees, from the left; what cannot be read is refused at the first mark that cannot stand."""

from rootspan.errors import NoText
from rootspan.marks import is_name, is_whole, marks_of
from rootspan.parts import Given, Less, Minus, Named, Over, Power, Rooted, Sum, Times, Whole
from rootspan.polys import added, poly
from rootspan.ratios import Ratio

DEEPEST = 10
EXPONENTS = ("0", "1", "2", "3", "4", "5", "6", "7", "8")


class Reading:
    def __init__(self, text):
        self.marks = marks_of(text)
        self.end = len(text)
        self.done = 0
        self.depth = 0

    # No mark is the text without signs, so this tells the end.
    def seen(self):
        if self.done == len(self.marks):
            return ""
        return self.marks[self.done][0]

    def begin(self):
        if self.done == len(self.marks):
            return self.end
        return self.marks[self.done][1]

    def step(self):
        mark = self.seen()
        self.done = self.done + 1
        return mark

    def passes(self, mark):
        if self.seen() != mark:
            return False
        self.done = self.done + 1
        return True

    def demand(self, mark):
        if not self.passes(mark):
            raise NoText(self.begin())

    def finish(self):
        if self.done < len(self.marks):
            raise NoText(self.begin())

    def enter(self):
        if self.depth == DEEPEST:
            raise NoText(self.begin())
        self.demand("(")
        self.depth = self.depth + 1

    def leave(self):
        self.demand(")")
        self.depth = self.depth - 1


def read(text):
    reading = Reading(text)
    tree = read_sum(reading)
    reading.finish()
    return tree


def read_poly(text):
    reading = Reading(text)
    row = read_terms(reading)
    reading.finish()
    return row


def read_sum(reading):
    tree = read_product(reading)
    while reading.seen() in ("+", "-"):
        if reading.step() == "+":
            tree = Sum(tree, read_product(reading))
        else:
            tree = Less(tree, read_product(reading))
    return tree


def read_product(reading):
    tree = read_factor(reading)
    while reading.seen() in ("*", "/"):
        if reading.step() == "*":
            tree = Times(tree, read_factor(reading))
        else:
            tree = Over(tree, read_factor(reading))
    return tree


def read_factor(reading):
    if reading.passes("-"):
        return Minus(read_power(reading))
    return read_power(reading)


def read_power(reading):
    tree = read_atom(reading)
    if reading.passes("^"):
        return Power(tree, read_exponent(reading))
    return tree


def read_exponent(reading):
    if reading.seen() not in EXPONENTS:
        raise NoText(reading.begin())
    return int(reading.step())


def read_atom(reading):
    if is_whole(reading.seen()):
        return Whole(int(reading.step()))
    if is_name(reading.seen()):
        return Named(reading.step())
    if reading.passes("sqrt"):
        return Rooted(read_brackets(reading), 2)
    if reading.passes("cbrt"):
        return Rooted(read_brackets(reading), 3)
    if reading.passes("root"):
        return read_given(reading)
    return read_brackets(reading)


def read_brackets(reading):
    reading.enter()
    tree = read_sum(reading)
    reading.leave()
    return tree


def read_given(reading):
    reading.enter()
    row = read_terms(reading)
    reading.demand(",")
    low = read_fraction(reading)
    reading.demand("..")
    high = read_fraction(reading)
    reading.leave()
    return Given(row, low, high)


def read_terms(reading):
    row = read_term(reading, -1 if reading.passes("-") else 1)
    while reading.seen() in ("+", "-"):
        row = added(row, read_term(reading, 1 if reading.step() == "+" else -1))
    return row


def read_term(reading, sign):
    if not is_whole(reading.seen()):
        return poly([0] * read_place(reading) + [sign])
    value = sign * int(reading.step())
    if reading.passes("*"):
        return poly([0] * read_place(reading) + [value])
    return poly([value])


def read_place(reading):
    reading.demand("x")
    if reading.passes("^"):
        return read_exponent(reading)
    return 1


def read_fraction(reading):
    sign = -1 if reading.passes("-") else 1
    top = sign * read_whole(reading)
    if not reading.passes("/"):
        return Ratio(top)
    if reading.seen() == "0":
        raise NoText(reading.begin())
    return Ratio(top, read_whole(reading))


def read_whole(reading):
    if not is_whole(reading.seen()):
        raise NoText(reading.begin())
    return int(reading.step())
