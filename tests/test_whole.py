"""Promise 3 over the whole program: trees drawn by chance, beside a reckoning with nearby fractions that knows no polynomials."""

import importlib
import random
import unittest
from fractions import Fraction

from helpers import NumberCase, sign
from rootspan.desk import Desk
from rootspan.errors import RootError
from rootspan.figures import figures, steps
from rootspan.looker import just_one, takes
from rootspan.numbers import compare, number, ordered, sign_of
from rootspan.papers import order_paper, root_paper
from rootspan.quotients import quotients
from rootspan.ratios import Ratio
from rootspan.reader import read
from test_figures import rounded
from test_parts import grown
from test_quotients import of_fraction

KNOWN = {"a": number([-5, 0, 1], Ratio(0))}
FINE = Fraction(1, 10 ** 60)
INTERFACE = {
    "errors": "RootError NoRatio ByNought NoPart TooGreat BelowNought NoRow NoRoot TooHigh NoText NoName", "ratios": "shared Ratio",
    "polys": "poly degree added taken multiplied slope turned flipped lifted shrunk plain value_at sign_at", "division": "divided",
    "factors": "divides common part without_squares layers", "sturm": "row_of changes count", "cells": "bound cells narrowed", "determinants": "determinant",
    "resultants": "resultant sums products powers", "least": "least", "numbers": "Number number fraction roots narrow against compare sign_of side ordered",
    "reckon": "opposite inverse plus minus times over power root", "parts": "Part Whole Given Named Minus Sum Less Times Over Power Rooted poly_text",
    "reader": "read read_poly", "figures": "steps figures", "quotients": "quotients", "papers": "root_paper order_paper", "looker": "just_one takes", "desk": "Desk",
}


# Each with the fractions between which it lies, those of fractions brought to the very one.
def drawn(seed, many):
    source = random.Random(seed)
    found = []
    while len(found) < many:
        tree, near = grown(source, 3)
        try:
            said = tree.worth(KNOWN)
        except RootError:
            continue
        if near is None or near.high - near.low > FINE:
            continue
        if len(said.poly) == 2:
            near.low, near.high = [min(max(Fraction(-said.poly[0], said.poly[1]), near.low), near.high)] * 2
        found.append((tree, said, near))
    return found


class Interface(unittest.TestCase):
    def test_each_name_is_there(self):
        for module, names in INTERFACE.items():
            for name in names.split():
                self.assertTrue(callable(getattr(importlib.import_module(f"rootspan.{module}"), name)), name)


class Trees(NumberCase):
    def test_what_is_told_of_one(self):
        for tree, said, near in drawn(3, 150):
            self.look(said, said.poly, near)
            self.assertEqual(sign_of(said), sign(near.low))
            for places in (0, 6, 25):
                self.assertIn(figures(said, places), (rounded(near.low, places), rounded(near.high, places)))
            self.assertIn(steps(said, 10 ** 20), [int(end * 10 ** 20 // 1) for end in (near.low, near.high)])
            told = [one for one, other in zip(of_fraction(near.low), of_fraction(near.high)) if one == other]
            self.assertEqual(quotients(said, 8), told[:8])
            self.assertTrue(just_one(said.poly, said.low, said.high, root_paper(said)))
            again = read(tree.text()).worth(KNOWN)
            self.assertEqual((again.poly, compare(again, said)), (said.poly, 0))

    def test_their_order(self):
        found = drawn(4, 60)
        for _, one, near in found:
            for _, other, beside in found:
                order = compare(one, other)
                if near.high < beside.low or beside.high < near.low:
                    self.assertEqual(order, -1 if near.high < beside.low else 1)
                else:
                    self.assertEqual(order, 0)
                paper = order_paper(one, other)
                self.assertEqual(paper[0], ("alike", "over", "under")[order])
                self.assertTrue(takes(one, other, paper))
        rising = ordered([one for _, one, _ in found])
        self.assertTrue(all(compare(one, other) <= 0 for one, other in zip(rising, rising[1:])))

    def test_at_the_desk(self):
        desk = Desk()
        desk.say("let a sqrt(5)")
        for k, (tree, said, near) in enumerate(drawn(5, 40)):
            name = "n" + "abcdefghij"[k // 10] + "abcdefghij"[k % 10]
            self.assertEqual(desk.say(f"let {name} {tree.text()}"), "ok")
            self.assertEqual(desk.say(f"show {name} 20"), figures(said, 20))
            self.assertEqual(desk.say(f"sign {name}"), ("nought", "above", "below")[sign(near.low)])
        self.assertEqual(len(desk.say("order").replace("=", "<").split(" < ")), 41)


# The same number made in two ways.
class Alike(unittest.TestCase):
    PAIRS = [
        ("sqrt(2)*sqrt(3)", "sqrt(6)"), ("(sqrt(2) + sqrt(3))^2", "5 + 2*sqrt(6)"), ("1/(sqrt(3) - sqrt(2))", "sqrt(2) + sqrt(3)"), ("cbrt(2)^3", "2"),
        ("sqrt(3 + 2*sqrt(2))", "1 + sqrt(2)"), ("cbrt(2 + sqrt(5)) + cbrt(2 - sqrt(5))", "1"), ("root(x^3 - x - 1, 1..2)^3", "root(x^3 - x - 1, 1..2) + 1"),
        ("root(x^4 - 10*x^2 + 1, 3..4)", "sqrt(2) + sqrt(3)"), ("-(1 - sqrt(5))/2", "1/((1 + sqrt(5))/2)"), ("sqrt(2)^8", "16"), ("0*cbrt(5)", "1 - 1"), ("sqrt(a^2)", "a"),
        ("root(x^2 - 5, -3..0)", "-a"), ("4/6", "2/3"), ("(a - a)^0", "1"), ("sqrt(cbrt(2))", "root(x^6 - 2, 0..2)"),
    ]

    def test_pairs(self):
        for first, second in self.PAIRS:
            one, other = read(first).worth(KNOWN), read(second).worth(KNOWN)
            self.assertEqual(compare(one, other), 0, first)
            self.assertEqual(order_paper(one, other)[0], "alike")
            self.assertTrue(takes(one, other, order_paper(one, other)))
            for places in (0, 6, 40):
                self.assertEqual(figures(one, places), figures(other, places))
            self.assertEqual(quotients(one, 30), quotients(other, 30))
            desk = Desk()
            for row in ("let a sqrt(5)", f"let p {first}", f"let q {second}"):
                desk.say(row)
            self.assertEqual(desk.say("compare p q"), "=")
            self.assertIn("p = q", desk.say("order"))


if __name__ == "__main__":
    unittest.main()
