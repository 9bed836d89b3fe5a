import random
import unittest
from fractions import Fraction

from helpers import Enclosed, Known, NumberCase, look_at_sharing, shown, squares
from rootspan.errors import BelowNought, ByNought, NoName, NoRoot, RootError, TooGreat, TooHigh
from rootspan.numbers import Number, compare, fraction, number
from rootspan.parts import Given, Less, Minus, Named, Over, Part, Power, Rooted, Sum, Times, Whole, poly_text
from rootspan.ratios import Ratio
from rootspan.reader import read, read_poly

FULL = 10 ** 120 - 1
ONE, TWO, THREE = Whole(1), Whole(2), Whole(3)
A, B, C = Named("a"), Named("b"), Named("c")
CUBE = Given([-2, 0, 0, 1], Ratio(0), Ratio(2))
SQUARE = Rooted(TWO, 2)
NOUGHT = Over(ONE, Whole(0))
HIGH = Sum(CUBE, CUBE)
PAIRS = (Sum, Less, Times, Over)


class Fields(unittest.TestCase):
    def test_each_part(self):
        low, high = Ratio(0), Ratio(2)
        given = Given([-2, 0, 1], low, high)
        self.assertEqual((given.poly, given.low, given.high), ([-2, 0, 1], low, high))
        self.assertEqual((Whole(7).value, Named("abc").word), (7, "abc"))
        self.assertIs(Minus(A).one, A)
        for kind in PAIRS:
            self.assertIs(kind(A, B).one, A)
            self.assertIs(kind(A, B).other, B)
        for kind in (Power, Rooted):
            self.assertIs(kind(A, 3).one, A)
            self.assertEqual(kind(A, 3).power, 3)

    def test_the_base(self):
        self.assertIs(type(Part()), Part)
        for part in (ONE, CUBE, A, Minus(A), Sum(A, B), Less(A, B), Times(A, B), Over(A, B), Power(A, 2), SQUARE):
            self.assertTrue(isinstance(part, Part))
            self.assertEqual(type(part).__bases__, (Part,))
        self.assertFalse(hasattr(Part(), "worth") or hasattr(Part(), "text"))

    def test_poly_is_a_copy(self):
        row = [-2, 0, 1]
        given = Given(row, Ratio(0), Ratio(2))
        row[0] = -3
        row.append(1)
        self.assertEqual(given.poly, [-2, 0, 1])
        self.assertEqual(given.worth().poly, [-2, 0, 1])
        self.assertEqual(given.text(), "root(x^2 - 2, 0..2)")


class Worth(NumberCase):
    def test_whole(self):
        for value in (0, 1, 2, 77, 10 ** 60, FULL):
            self.look(Whole(value).worth(), [-value, 1], Known(value))
        self.refused(TooGreat, Whole(FULL + 1).worth)

    def test_given(self):
        self.look(CUBE.worth(), [-2, 0, 0, 1], Known(0, 1, 2, 3))
        self.look(Given([-4, 0, 2], Ratio(-2), Ratio(0)).worth(), [-2, 0, 1], squares(0, 2)[0])
        self.look(Given([0, -1, 2], Ratio(0), Ratio(1)).worth(), [-1, 2], Known(Fraction(1, 2)))
        self.assertEqual(self.refused(NoRoot, Given([-2, 0, 1], Ratio(-2), Ratio(2)).worth).many, 2)
        self.assertEqual(self.refused(NoRoot, Given([-2, 0, 1], Ratio(2), Ratio(0)).worth).many, 0)
        self.assertEqual(self.refused(NoRoot, Given([], Ratio(0), Ratio(1)).worth).many, 0)
        self.assertEqual(self.refused(TooHigh, Given([-2] + [0] * 8 + [1], Ratio(0), Ratio(2)).worth).degree, 9)
        self.refused(TooGreat, Given([-FULL - 1, 0, 0, 1], Ratio(0), Ratio(10 ** 60)).worth)

    def test_the_others(self):
        self.look(Minus(CUBE).worth(), [2, 0, 0, 1], Known(0, -1, 2, 3))
        self.look(Minus(Whole(0)).worth(), [0, 1], Known(0))
        self.look(Sum(SQUARE, ONE).worth(), [-1, -2, 1], Known(1, 1, 2))
        self.look(Less(SQUARE, ONE).worth(), [-1, 2, 1], Known(-1, 1, 2))
        self.look(Less(ONE, SQUARE).worth(), [-1, -2, 1], Known(1, -1, 2))
        self.look(Times(SQUARE, THREE).worth(), [-18, 0, 1], Known(0, 1, 18))
        self.look(Over(TWO, THREE).worth(), [-2, 3], Known(Fraction(2, 3)))
        self.look(Over(THREE, TWO).worth(), [-3, 2], Known(Fraction(3, 2)))
        self.look(Over(SQUARE, THREE).worth(), [-2, 0, 9], Known(0, 1, Fraction(2, 9)))
        for k in range(9):
            self.look(Power(THREE, k).worth(), [-3 ** k, 1], Known(3 ** k))
        self.look(Power(CUBE, 2).worth(), [-4, 0, 0, 1], Known(0, 1, 4, 3))
        self.look(Rooted(TWO, 2).worth(), [-2, 0, 1], Known(0, 1, 2))
        self.look(Rooted(TWO, 3).worth(), [-2, 0, 0, 1], Known(0, 1, 2, 3))
        self.look(Rooted(Minus(TWO), 3).worth(), [2, 0, 0, 1], Known(0, -1, 2, 3))

    def test_refusals_of_the_others(self):
        self.refused(ByNought, NOUGHT.worth)
        self.refused(ByNought, Over(ONE, Less(SQUARE, SQUARE)).worth)
        for kind in PAIRS:
            self.assertEqual(self.refused(TooHigh, kind(CUBE, CUBE).worth).degree, 9)
        self.refused(TooGreat, Sum(Whole(FULL), ONE).worth)
        self.refused(TooGreat, Power(Whole(10 ** 15), 8).worth)
        self.refused(BelowNought, Rooted(Minus(TWO), 2).worth)
        self.refused(BelowNought, Rooted(Minus(CUBE), 2).worth)
        self.assertEqual(self.refused(TooHigh, Rooted(CUBE, 3).worth).degree, 9)

    def test_names(self):
        known = {"a": number([-2, 0, 1], Ratio(0)), "b": fraction(Ratio(1, 3)), "zzzzzzzz": fraction(Ratio(5))}
        kept = shown(known, True)
        self.look(A.worth(known), [-2, 0, 1], Known(0, 1, 2))
        self.look(B.worth(known), [-1, 3], Known(Fraction(1, 3)))
        self.look(Named("zzzzzzzz").worth(known), [-5, 1], Known(5))
        self.look(Sum(A, B).worth(known), Known(Fraction(1, 3), 1, 2).row(), Known(Fraction(1, 3), 1, 2))
        self.look(Minus(Power(A, 2)).worth(known), [2, 1], Known(-2))
        self.look(Rooted(Times(A, A), 3).worth(known), [-2, 0, 0, 1], Known(0, 1, 2, 3))
        self.look(Over(B, Less(B, ONE)).worth(known), [1, 2], Known(Fraction(-1, 2)))
        self.assertEqual(shown(known, True), kept)

    def test_names_that_are_not_known(self):
        known = {"a": fraction(Ratio(5))}
        for word in ("b", "aa", "sixteen", "zzzzzzzz"):
            part = Named(word)
            for given in ((), (None,), ({},), (known,)):
                for tree in (part, Minus(part), Sum(part, ONE), Sum(ONE, part), Less(part, ONE), Less(ONE, part), Times(Whole(0), part),
                             Times(part, ONE), Over(part, ONE), Over(ONE, part), Power(part, 2), Power(part, 0), Rooted(part, 2), Rooted(part, 3)):
                    self.assertEqual(self.refused(NoName, tree.worth, *given).name, word)
        self.assertEqual(self.refused(NoName, A.worth).name, "a")
        self.assertEqual(self.refused(NoName, A.worth, None).name, "a")
        self.assertEqual(list(known), ["a"])

    def test_names_within(self):
        known = {"a": fraction(Ratio(5)), "b": fraction(Ratio(7))}
        self.look(Sum(Times(A, B), Over(A, Power(B, 2))).worth(known), [-1720, 49], Known(35 + Fraction(5, 49)))
        deep = Minus(Rooted(Power(Sum(Less(Times(Over(A, A), B), B), A), 3), 3))
        self.look(deep.worth(known), [5, 1], Known(-5))

    def test_the_first_refusal_met(self):
        below, great = Rooted(Minus(ONE), 2), Whole(FULL + 1)
        wrong = [(A, NoName), (NOUGHT, ByNought), (HIGH, TooHigh), (below, BelowNought), (great, TooGreat), (Given([], Ratio(0), Ratio(1)), NoRoot)]
        for kind in PAIRS:
            for one, told in wrong:
                for other, later in wrong:
                    self.refused(told, kind(one, other).worth)
                    self.refused(told, kind(one, Sum(ONE, other)).worth)
                    self.refused(later, kind(ONE, other).worth)
                    self.refused(told, kind(Minus(one), other).worth)
            self.assertEqual(self.refused(NoName, kind(A, B).worth).name, "a")
            self.assertEqual(self.refused(NoName, kind(B, A).worth).name, "b")
            self.assertEqual(self.refused(NoName, kind(ONE, kind(C, A)).worth, {"a": fraction(Ratio(1))}).name, "c")
        self.refused(TooGreat, Over(great, Whole(0)).worth)
        self.refused(ByNought, Over(Times(CUBE, SQUARE), Whole(0)).worth)
        self.refused(NoName, Over(Sum(ONE, TWO), Times(Whole(0), A)).worth)

    def test_a_powers_one_is_reckoned_whatever_the_exponent(self):
        for k in range(9):
            self.refused(ByNought, Power(NOUGHT, k).worth)
            self.assertEqual(self.refused(NoName, Power(A, k).worth).name, "a")
            self.assertEqual(self.refused(TooHigh, Power(HIGH, k).worth).degree, 9)
        self.look(Power(Whole(0), 0).worth(), [-1, 1], Known(1))
        self.look(Power(A, 0).worth({"a": fraction(Ratio(0))}), [-1, 1], Known(1))

    def test_deep_ones(self):
        left, right, turned, within = ONE, ONE, SQUARE, Whole(0)
        for _ in range(98):
            left, right, turned, within = Sum(left, ONE), Less(ONE, right), Minus(turned), Rooted(within, 2)
        self.look(left.worth(), [-99, 1], Known(99))
        self.look(right.worth(), [-1, 1], Known(1))
        self.look(turned.worth(), [-2, 0, 1], Known(0, 1, 2))
        self.look(within.worth(), [0, 1], Known(0))
        self.assertEqual(left.text(), "1" + " + 1" * 98)
        self.assertEqual(right.text(), "1 - (" * 97 + "1 - 1" + ")" * 97)
        self.assertEqual(turned.text(), "-(" * 97 + "-sqrt(2)" + ")" * 97)

    # Beside a reckoning with nearby fractions that knows nothing of polynomials.
    def test_drawn_ones(self):
        source = random.Random(31)
        looked = 0
        for _ in range(400):
            tree, near = grown(source, 3)
            try:
                said = tree.worth({"a": number([-5, 0, 1], Ratio(0))})
            except RootError:
                continue
            if near is not None and near.high - near.low < Fraction(1, 10 ** 50) and len(said.poly) > 2:
                self.look(said, said.poly, near)
                looked += 1
            elif near is not None and len(said.poly) == 2:
                self.assertTrue(near.low <= Fraction(-said.poly[0], said.poly[1]) <= near.high)
                looked += 1
        self.assertGreater(looked, 150)


def safely(call):
    try:
        return call()
    except (AssertionError, ZeroDivisionError):
        return None


# A tree, and what it is worth by nearby fractions, None where that can't be told.
def grown(source, depth):
    if depth == 0 or source.random() < 0.2:
        value = source.randrange(5)
        return source.choice([(Whole(value), Enclosed(value)), (Whole(value), Enclosed(value)), (A, Enclosed(5).root(2)), (CUBE, Enclosed(2).root(3))])
    one, near = grown(source, depth - 1)
    kind = source.choice((Minus, Sum, Less, Times, Over, Power, Rooted))
    if kind == Minus:
        return Minus(one), near and near.opposite()
    if kind in (Power, Rooted):
        k = source.randrange(4) if kind == Power else source.choice((2, 3))
        if near is None or (kind == Rooted and near.low <= 0 and (near.low, near.high) != (0, 0) and not (k == 3 and near.high < 0)):
            return kind(one, k), None
        return kind(one, k), near.power(k) if kind == Power else near.root(k)
    other, beside = grown(source, depth - 1)
    if near is None or beside is None:
        return kind(one, other), None
    call = {Sum: near.plus, Less: near.minus, Times: near.times, Over: near.over}[kind]
    return kind(one, other), safely(lambda: call(beside))


# A tree of names and wholes alone, for texts.
def drawn(source, depth):
    if depth == 0 or source.random() < 0.15:
        low = Ratio(source.randrange(-9, 9), source.randrange(1, 5))
        row = [source.randrange(-3, 4) for _ in range(source.randrange(9))] + [source.choice((-2, -1, 1, 3))]
        return source.choice([Whole(source.randrange(200)), Named(source.choice(("a", "bc", "xx", "eightlet"))), Given(row, low, Ratio(7, 3))])
    one, other = drawn(source, depth - 1), drawn(source, depth - 1)
    return source.choice([
        Minus(one), Sum(one, other), Less(one, other), Times(one, other), Over(one, other),
        Power(one, source.randrange(9)), Rooted(one, source.choice((2, 3))),
    ])


class Text(unittest.TestCase):
    def look(self, tree, told):
        said = tree.text()
        self.assertIs(type(said), str)
        self.assertEqual(said, told)
        self.assertEqual(shown(read(told)), shown(tree))

    def test_each_part(self):
        self.look(Whole(0), "0")
        self.look(Whole(207), "207")
        self.look(Whole(10 ** 150 + 3), str(10 ** 150 + 3))
        self.look(Named("abc"), "abc")
        self.look(Given([-1, -1, 0, 1], Ratio(1), Ratio(2)), "root(x^3 - x - 1, 1..2)")
        self.look(Given([], Ratio(-1, 2), Ratio(22, 7)), "root(0, -1/2..22/7)")
        self.look(Given([3, -2], Ratio(0), Ratio(-5)), "root(-2*x + 3, 0..-5)")
        self.look(Rooted(A, 2), "sqrt(a)")
        self.look(Rooted(A, 3), "cbrt(a)")
        self.look(Minus(A), "-a")
        self.look(Sum(A, B), "a + b")
        self.look(Less(A, B), "a - b")
        self.look(Times(A, B), "a*b")
        self.look(Over(A, B), "a/b")
        for k in range(9):
            self.look(Power(A, k), f"a^{k}")

    # Each part within each other: the brackets stand just where they must.
    def test_within_a_sum(self):
        for kind, mark in ((Sum, "+"), (Less, "-")):
            for inner, text, sort in WITHIN:
                self.look(kind(inner, C), f"{text} {mark} c")
                self.look(kind(C, inner), f"c {mark} ({text})" if sort == "sum" else f"c {mark} {text}")

    def test_within_a_product(self):
        for kind, mark in ((Times, "*"), (Over, "/")):
            for inner, text, sort in WITHIN:
                self.look(kind(inner, C), f"({text}){mark}c" if sort == "sum" else f"{text}{mark}c")
                self.look(kind(C, inner), f"c{mark}({text})" if sort in ("sum", "product") else f"c{mark}{text}")

    def test_within_a_minus(self):
        for inner, text, sort in WITHIN:
            self.look(Minus(inner), f"-{text}" if sort in ("atom", "power") else f"-({text})")

    def test_within_a_power(self):
        for inner, text, sort in WITHIN:
            self.look(Power(inner, 2), f"{text}^2" if sort == "atom" else f"({text})^2")

    def test_within_a_root(self):
        for k, word in ((2, "sqrt"), (3, "cbrt")):
            for inner, text, sort in WITHIN:
                self.look(Rooted(inner, k), f"{word}({text})")

    def test_deeper_ones(self):
        self.look(Sum(Sum(A, B), Sum(A, B)), "a + b + (a + b)")
        self.look(Less(A, Less(B, Less(C, ONE))), "a - (b - (c - 1))")
        self.look(Times(Times(A, Over(B, C)), Times(A, B)), "a*(b/c)*(a*b)")
        self.look(Sum(Times(A, B), Over(Minus(C), A)), "a*b + -c/a")
        self.look(Minus(Minus(Power(Power(Minus(A), 2), 3))), "-(-((-a)^2)^3)")
        self.look(Over(Sum(ONE, Rooted(Less(A, Minus(B)), 2)), Power(Rooted(Times(A, Sum(B, C)), 3), 4)), "(1 + sqrt(a - -b))/cbrt(a*(b + c))^4")

    def test_read_again(self):
        source = random.Random(34)
        for _ in range(400):
            tree = drawn(source, source.randrange(1, 4))
            self.assertEqual(shown(read(tree.text())), shown(tree))

    # Without any pair of brackets that no word needs, the text is none, or one of another tree.
    def test_no_needless_brackets(self):
        source = random.Random(35)
        for _ in range(150):
            tree = drawn(source, 3)
            text = tree.text()
            for start, end in pairs(text):
                if start == 0 or not text[start - 1].isalpha():
                    less = text[:start] + " " + text[start + 1:end] + " " + text[end + 1:]
                    try:
                        self.assertNotEqual(shown(read(less)), shown(tree), text)
                    except RootError:
                        pass


# The sort is the rule that reads it: within what it needs brackets hangs on this alone.
WITHIN = [
    (ONE, "1", "atom"), (A, "a", "atom"), (CUBE, "root(x^3 - 2, 0..2)", "atom"), (SQUARE, "sqrt(2)", "atom"),
    (Rooted(Sum(A, B), 3), "cbrt(a + b)", "atom"), (Power(A, 3), "a^3", "power"), (Minus(A), "-a", "minus"),
    (Sum(A, B), "a + b", "sum"), (Less(A, B), "a - b", "sum"), (Times(A, B), "a*b", "product"), (Over(A, B), "a/b", "product"),
]


def pairs(text):
    waiting, found = [], []
    for at, mark in enumerate(text):
        if mark == "(":
            waiting.append(at)
        elif mark == ")":
            found.append((waiting.pop(), at))
    return found


class PolyText(unittest.TestCase):
    TOLD = [
        ([], "0"), ([1], "1"), ([-1], "-1"), ([5], "5"), ([-12], "-12"), ([0, 1], "x"), ([0, -1], "-x"), ([0, 2], "2*x"), ([0, -2], "-2*x"),
        ([1, 1], "x + 1"), ([-1, 1], "x - 1"), ([1, -1], "-x + 1"), ([-1, -1], "-x - 1"), ([1, -2, 0, 1], "x^3 - 2*x + 1"),
        ([0, 0, 1], "x^2"), ([0, 0, -1], "-x^2"), ([0, 0, 10], "10*x^2"), ([0, 1, 1], "x^2 + x"), ([0, -1, 1], "x^2 - x"), ([0, 1, -1], "-x^2 + x"),
        ([-11, 0, 1, 0, -1], "-x^4 + x^2 - 11"), ([1, 1, 1, 1], "x^3 + x^2 + x + 1"), ([-1, -1, -1, -1], "-x^3 - x^2 - x - 1"),
        ([0, 0, 0, 7, 0, 0, 0, 0, -3], "-3*x^8 + 7*x^3"), ([10 ** 130, 0, -10 ** 130], f"-{10 ** 130}*x^2 + {10 ** 130}"),
    ]

    def test_told_ones(self):
        for row, text in self.TOLD:
            self.assertEqual(poly_text(row), text)
            self.assertIs(type(poly_text(row)), str)
            self.assertEqual(read_poly(text), row)

    def test_great_degrees(self):
        self.assertEqual(poly_text([1] + [0] * 11 + [1]), "x^12 + 1")
        self.assertEqual(poly_text([0] * 40 + [-1]), "-x^40")
        self.assertEqual(poly_text([-4] * 11), "-4*x^10 - 4*x^9 - 4*x^8 - 4*x^7 - 4*x^6 - 4*x^5 - 4*x^4 - 4*x^3 - 4*x^2 - 4*x - 4")

    def test_read_again(self):
        source = random.Random(351)
        for _ in range(300):
            row = [source.choice((0, 0, 1, -1, 2, -17)) for _ in range(source.randrange(9))] + [source.choice((1, -1, 5, -40))]
            self.assertEqual(read_poly(poly_text(row)), row)


class NothingIsShared(unittest.TestCase):
    def test_worth(self):
        number_of = {"a": number([-2, 0, 1], Ratio(0)), "b": fraction(Ratio(3))}
        for tree in (A, ONE, CUBE, Minus(A), Sum(A, B), Less(A, B), Times(A, B), Over(A, B), Power(A, 3), Rooted(B, 2)):
            look_at_sharing(self, lambda tree, known: tree.worth(known), lambda: [tree, dict(number_of)])
            look_at_sharing(self, lambda tree: tree.text(), lambda: [tree])

    def test_refused_ones_stay(self):
        known = {"a": number([-2, 0, 1], Ratio(0))}
        kept = shown(known, True)
        for tree in (Sum(A, B), Sum(CUBE, CUBE), Over(A, Less(A, A)), Rooted(Minus(A), 2), Times(Times(CUBE, A), A)):
            before = shown(tree)
            with self.assertRaises(RootError):
                tree.worth(known)
            self.assertEqual((shown(tree), shown(known, True)), (before, kept))

    def test_a_known_name_tells_the_number_kept(self):
        known = {"a": number([-2, 0, 1], Ratio(0))}
        first = A.worth(known)
        known["a"] = fraction(Ratio(5))
        self.assertEqual((first.poly, A.worth(known).poly), ([-2, 0, 1], [-5, 1]))
        known.clear()
        with self.assertRaises(NoName):
            A.worth(known)
        self.assertEqual(compare(first, number([-2, 0, 1], Ratio(1))), 0)

    def test_poly_text(self):
        look_at_sharing(self, poly_text, lambda: [[1, -2, 0, 1]])
        look_at_sharing(self, poly_text, lambda: [[]])

    def test_the_same_part_more_than_once(self):
        part = Sum(A, ONE)
        tree = Times(part, Less(part, part))
        known = {"a": Number([-2, 0, 1], Ratio(1), Ratio(2))}
        self.assertEqual([tree.worth(known).poly for _ in range(2)], [[0, 1], [0, 1]])
        self.assertEqual(tree.text(), "(a + 1)*(a + 1 - (a + 1))")


if __name__ == "__main__":
    unittest.main()
