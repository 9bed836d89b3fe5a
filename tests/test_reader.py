import random
import re
import unittest

from helpers import shown
from rootspan.errors import NoText, RootError
from rootspan.parts import Given, Less, Minus, Named, Over, Power, Rooted, Sum, Times, Whole
from rootspan.ratios import Ratio
from rootspan.reader import read, read_poly

A, B, C = Named("a"), Named("b"), Named("c")
ONE, TWO, THREE = Whole(1), Whole(2), Whole(3)


# Another reader, for texts that can be read: Python itself ranks the marks, and these build the tree.
class Built:
    def __init__(self, tree):
        self.tree = tree

    def __neg__(self):
        return Built(Minus(self.tree))

    def __add__(self, other):
        return Built(Sum(self.tree, other.tree))

    def __sub__(self, other):
        return Built(Less(self.tree, other.tree))

    def __mul__(self, other):
        return Built(Times(self.tree, other.tree))

    def __truediv__(self, other):
        return Built(Over(self.tree, other.tree))

    def __pow__(self, other):
        return Built(Power(self.tree, other.tree.value))


def by_python(text):
    text = re.sub(r"root *\(([^,]*),(.*?)\.\.([^)]*)\)", lambda found: "given_%s_" % "_".join(part.encode().hex() for part in found.groups()), text)
    names = {"sqrt": lambda one: Built(Rooted(one.tree, 2)), "cbrt": lambda one: Built(Rooted(one.tree, 3))}

    def put(found):
        word = found.group()
        if word.startswith("given_"):
            row, low, high = [bytes.fromhex(part).decode() for part in word[6:-1].split("_")]
            names[word] = Built(Given(row_by_python(row), *[ratio_by_python(end) for end in (low, high)]))
        elif word.isdigit():
            names["w" + word] = Built(Whole(int(word)))
            return "w" + word
        elif word not in names:
            names["n_" + word] = Built(Named(word))
            return "n_" + word
        return word

    return eval(re.sub(r"given_[0-9a-f_]+_|[a-z]+|[0-9]+", put, text).replace("^", "**").strip(), {}, names).tree


def ratio_by_python(text):
    parts = text.replace(" ", "").split("/")
    return Ratio(int(parts[0]), int(parts[1]) if len(parts) == 2 else 1)


# The coefficients of a polynomial of degree 8 at most, told by its value at one great number.
def row_by_python(text):
    base = 10 ** 400
    value = eval(text.replace("^", "**").strip(), {}, {"x": base})
    row = []
    while value != 0:
        digit = (value + base // 2) % base - base // 2
        row.append(digit)
        value = (value - digit) // base
    return row


# Which marks may stand in which state, and what comes then: a table in the place of rules. "close" is behind a
# sum's end, "(" opens a sum, "<" a root's polynomial.
OPS = {"+": "factor", "-": "factor", "*": "factor", "/": "factor", ")": "close"}
TERMS = {"+": "term", "-": "term", ",": "low"}
ATOM = {"whole": "atom", "name": "atom", "(": "(", "sqrt": "word", "cbrt": "word", "root": "root"}
STATES = {
    "factor": {"-": "bare", **ATOM}, "bare": ATOM, "atom": {"^": "exponent", **OPS}, "exponent": {"exponent": "powered"},
    "powered": OPS, "word": {"(": "("}, "root": {"(": "<"},
    "poly": {"-": "term", "whole": "coefficient", "x": "power"}, "term": {"whole": "coefficient", "x": "power"},
    "coefficient": {"*": "x", **TERMS}, "x": {"x": "power"}, "power": {"^": "degree", **TERMS}, "degree": {"exponent": "ended"}, "ended": TERMS,
    "low": {"-": "low_top", "whole": "low_over"}, "low_top": {"whole": "low_over"}, "low_over": {"/": "low_bottom", "..": "high"},
    "low_bottom": {"bottom": "low_done"}, "low_done": {"..": "high"},
    "high": {"-": "high_top", "whole": "high_over"}, "high_top": {"whole": "high_over"}, "high_over": {"/": "high_bottom", ")": "close"},
    "high_bottom": {"bottom": "high_done"}, "high_done": {")": "close"},
}


def sorts(mark):
    found = [mark]
    if re.fullmatch("0|[1-9][0-9]*", mark):
        found += ["whole"] + ["exponent"] * (mark in list("012345678")) + ["bottom"] * (mark != "0")
    if re.fullmatch("[a-z]{1,8}", mark) and mark not in ("x", "sqrt", "cbrt", "root"):
        found.append("name")
    return found


# The place of the first mark that cannot stand, or the text's length where it ends too early; None where it is read.
def wrong_place(text, state="factor", ends=("atom", "powered")):
    depth = 0
    for found in re.finditer(r"[0-9]+|[a-z]+|\.\.|[^ ]", text):
        after = [STATES[state][sort] for sort in sorts(found.group()) if sort in STATES[state]]
        if not after or (after[0] in ("(", "<") and depth == 10) or (after[0] == "close" and depth == 0) or (after[0] == "low" and depth == 0):
            return found.start()
        state = after[0]
        depth += (state in ("(", "<")) - (state == "close")
        state = {"(": "factor", "<": "poly", "close": "atom"}.get(state, state)
    return None if depth == 0 and state in ends else len(text)


def wrong_in_poly(text):
    return wrong_place(text, "poly", ("coefficient", "power", "ended"))


class Drawn:
    def __init__(self, seed):
        self.source = random.Random(seed)

    def blanks(self):
        return " " * self.source.choice((0, 0, 0, 1, 1, 3))

    def pick(self, *ways):
        return self.source.choice(ways)

    def whole(self):
        return [str(self.source.choice((0, 1, 2, 9, 10, 405, self.source.randrange(10 ** 9))))]

    def exponent(self):
        return [str(self.source.randrange(9))]

    def sum(self, depth):
        found = self.product(depth)
        for _ in range(self.pick(0, 0, 1, 2)):
            found = found + [self.pick("+", "-")] + self.product(depth)
        return found

    def product(self, depth):
        found = self.factor(depth)
        for _ in range(self.pick(0, 0, 1, 2)):
            found = found + [self.pick("*", "/")] + self.factor(depth)
        return found

    def factor(self, depth):
        found = self.atom(depth)
        if self.pick(0, 0, 1):
            found = found + ["^"] + self.exponent()
        return self.pick([], [], ["-"]) + found

    def atom(self, depth):
        if depth == 0 or self.pick(0, 0, 1):
            return self.pick(self.whole(), [self.pick("a", "b", "xx", "xsqrt", "eightlet", "rootx")])
        if self.pick(0, 0, 1):
            return ["root", "("] + self.poly() + [","] + self.fraction() + [".."] + self.fraction() + [")"]
        return self.pick([], ["sqrt"], ["cbrt"]) + ["("] + self.sum(depth - 1) + [")"]

    def poly(self):
        found = self.pick([], ["-"]) + self.term()
        for _ in range(self.pick(0, 1, 2, 4)):
            found = found + [self.pick("+", "-")] + self.term()
        return found

    def term(self):
        ahead = self.pick([], self.whole() + ["*"])
        end = self.pick(["x"], ["x", "^"] + self.exponent())
        return self.pick(self.whole(), ahead + end)

    def fraction(self):
        return self.pick([], ["-"]) + self.whole() + self.pick([], ["/", str(self.source.randrange(1, 50))])

    # Blanks anywhere between, and where two marks would run into one.
    def text(self, marks):
        found = self.blanks()
        for mark in marks:
            if found and re.fullmatch(r"[0-9]{2}|[a-z]{2}|\.\.", found[-1] + mark[0]):
                found += " "
            found += mark + self.blanks()
        return found

    def spoilt(self, marks):
        wrong = ["+", "-", "*", "/", "^", "(", ")", ",", "..", ".", "x", "sqrt", "cbrt", "root", "a", "0", "1", "8", "9", "10", "00", "07",
                 "nineletts", "A", "_", "=", "\t", "\n", "**", "&", "2a", "x2"]
        found = list(marks)
        for _ in range(self.pick(1, 1, 2)):
            at = self.source.randrange(len(found) + 1)
            way = self.pick("in", "out", "other", "end")
            found = found[:at] + ([self.source.choice(wrong)] if way in ("in", "other") else []) + ([] if way == "end" else found[at + (way != "in"):])
        return found


class Reads(unittest.TestCase):
    def look(self, text, tree):
        self.assertEqual(shown(read(text)), shown(tree), text)

    def refused(self, at, text, call=read):
        with self.assertRaises(RootError) as caught:
            call(text)
        self.assertIs(type(caught.exception), NoText, text)
        self.assertEqual(caught.exception.at, at, text)
        self.assertIs(type(caught.exception.at), int)


class Texts(Reads):
    def test_sums_and_products_from_the_left(self):
        self.look("a + b", Sum(A, B))
        self.look("a - b - c", Less(Less(A, B), C))
        self.look("a - b + c", Sum(Less(A, B), C))
        self.look("a + b - c", Less(Sum(A, B), C))
        self.look("a - (b - c)", Less(A, Less(B, C)))
        self.look("a*b", Times(A, B))
        self.look("a/b/c", Over(Over(A, B), C))
        self.look("a/b*c", Times(Over(A, B), C))
        self.look("a*b/c", Over(Times(A, B), C))
        self.look("a/(b*c)", Over(A, Times(B, C)))
        self.look("a + b*c", Sum(A, Times(B, C)))
        self.look("a*b + c", Sum(Times(A, B), C))
        self.look("a - b/c - 1", Less(Less(A, Over(B, C)), ONE))
        self.look("(a + b)*c", Times(Sum(A, B), C))

    def test_minus_and_powers(self):
        self.look("-a", Minus(A))
        self.look("-a^2", Minus(Power(A, 2)))
        self.look("(-a)^2", Power(Minus(A), 2))
        self.look("-(a^2)", Minus(Power(A, 2)))
        self.look("a*-b", Times(A, Minus(B)))
        self.look("a - -b", Less(A, Minus(B)))
        self.look("a+-b^3", Sum(A, Minus(Power(B, 3))))
        self.look("-a*b", Times(Minus(A), B))
        self.look("-a/-b", Over(Minus(A), Minus(B)))
        self.look("-a - b", Less(Minus(A), B))
        self.look("2^3*a", Times(Power(TWO, 3), A))
        self.look("a*b^2", Times(A, Power(B, 2)))
        self.look("(a^2)^3", Power(Power(A, 2), 3))
        self.look("(a)^0", Power(A, 0))
        self.look("-(-(a))", Minus(Minus(A)))
        for k in range(9):
            self.look(f"7^{k}", Power(Whole(7), k))

    def test_atoms(self):
        for value in (0, 1, 7, 10, 209, 10 ** 190 + 7):
            self.look(str(value), Whole(value))
        for word in ("a", "z", "ab", "xx", "sqrtx", "sqr", "roots", "cbr", "cbrta", "rootroot", "abcdefgh", "zzzzzzzz", "e", "i", "y", "xsqrt"):
            self.look(word, Named(word))
        for word in "abcdefghijklmnopqrstuvwyz":
            self.look(word, Named(word))
        for figure in "0123456789":
            self.look(figure, Whole(int(figure)))
        self.look("((a))", A)
        self.look("sqrt(2)", Rooted(TWO, 2))
        self.look("cbrt(a + b)", Rooted(Sum(A, B), 3))
        self.look("sqrt(2)^3", Power(Rooted(TWO, 2), 3))
        self.look("-sqrt(cbrt(a))", Minus(Rooted(Rooted(A, 3), 2)))
        self.look("sqrt((2))", Rooted(TWO, 2))

    def test_roots(self):
        self.look("root(x^2 - 2, 0..2)", Given([-2, 0, 1], Ratio(0), Ratio(2)))
        self.look("root(-x^3 + x + 1, 1..2)^2", Power(Given([1, 1, 0, -1], Ratio(1), Ratio(2)), 2))
        self.look("root(1 + x^2 - 3*x^8 + 2*x, -1/2..3/4)", Given([1, 2, 1, 0, 0, 0, 0, 0, -3], Ratio(-1, 2), Ratio(3, 4)))
        self.look("root(x + x + x, 0..0)", Given([0, 3], Ratio(0), Ratio(0)))
        self.look("root(x^2 - x^2, 2..1)", Given([], Ratio(2), Ratio(1)))
        self.look("root(0, 1..2)", Given([], Ratio(1), Ratio(2)))
        self.look("root(-0, -0..-0/7)", Given([], Ratio(0), Ratio(0)))
        self.look("root(5*x^0 + x^1 + 0*x^8, 6/4..100/10)", Given([5, 1], Ratio(3, 2), Ratio(10)))
        self.look("root(0*x - 7, -12/9..4)", Given([-7], Ratio(-4, 3), Ratio(4)))
        self.look("root(x,1..2)*root(x,1/1..4/2)", Times(Given([0, 1], Ratio(1), Ratio(2)), Given([0, 1], Ratio(1), Ratio(2))))

    def test_blanks(self):
        self.look("  a  +  b  ", Sum(A, B))
        self.look("-  a ^ 2", Minus(Power(A, 2)))
        self.look(" sqrt  ( 2 ) ", Rooted(TWO, 2))
        self.look(" root ( - 2 * x ^ 2 + 1 , - 1 / 2 .. 3 / 4 ) ", Given([1, 0, -2], Ratio(-1, 2), Ratio(3, 4)))
        self.look("root(-2*x^2+1,-1/2..3/4)", Given([1, 0, -2], Ratio(-1, 2), Ratio(3, 4)))
        self.look(" 1", ONE)
        self.look("1 ", ONE)

    def test_two_marks_in_a_run(self):
        self.refused(1, "2a")
        self.refused(1, "a2")
        self.refused(2, "a b")
        self.refused(2, "1 2")
        self.refused(5, "sqrt 2")
        self.refused(3, "sq rt(2)")

    def test_ten_brackets(self):
        self.look("(" * 10 + "a" + ")" * 10, A)
        self.look("sqrt(" * 10 + "a" + ")" * 10, self.deep(10))
        self.look("(" * 9 + "root(x, 0..1)" + ")" * 9, Given([0, 1], Ratio(0), Ratio(1)))
        self.look("((a))" + "*(a)" * 12, self.long(A))

    def deep(self, many):
        tree = A
        for _ in range(many):
            tree = Rooted(tree, 2)
        return tree

    def long(self, tree):
        for _ in range(12):
            tree = Times(tree, A)
        return tree

    def test_drawn_ones(self):
        drawn = Drawn(32)
        for _ in range(400):
            text = drawn.text(drawn.sum(2))
            self.assertIsNone(wrong_place(text))
            self.look(text, by_python(text))

    def test_each_time_anew(self):
        first = read("root(x^2 - 2, 0..2)")
        self.assertIsNot(first, read("root(x^2 - 2, 0..2)"))
        first = read_poly("x^2 - 2")
        first[0] = 5
        first.append(1)
        self.assertEqual(read_poly("x^2 - 2"), [-2, 0, 1])


class NoTexts(Reads):
    def test_the_end_comes_too_early(self):
        for text in ("", " ", "   ", "a +", "a + ", "a -  ", "a*", "a/ ", "-", " - ", "a^", "a ^ ", "(", "( a", "(a + ", "sqrt", "sqrt ", "sqrt(", "sqrt(a",
                     "cbrt", "cbrt(2 ", "root", "root(", "root(x", "root(x ", "root(-", "root(2", "root(2*", "root(x^", "root(x +", "root(x,", "root(x, -",
                     "root(x, 1", "root(x, 1/", "root(x, 1..", "root(x, 1/2..", "root(x, 1..-", "root(x, 1..2", "root(x, 1..2/ ", "root(x, 1..2/3", "((a)",
                     "(" * 10, "(" * 10 + "sqrt ", "(" * 10 + "root"):
            self.refused(len(text), text)

    def test_numbers(self):
        for text, at in (("007", 0), ("00", 0), ("01", 0), ("a + 00", 4), ("a*012", 2), ("(00)", 1), ("sqrt(03)", 5), ("root(02, 1..2)", 5),
                         ("root(02*x, 1..2)", 5), ("root(x + 00, 1..2)", 9), ("root(x, 01..2)", 8), ("root(x, 1/02..2)", 10), ("root(x, 1..02)", 11),
                         ("root(x, 1..2/02)", 13), ("root(x, -00..2)", 9)):
            self.refused(at, text)

    def test_exponents(self):
        for end in ("9", "10", "12", "80", "00", "01", "08", "a", "x", "(", "-", "-1", ")", "^", "sqrt", ",", "..", ".", "!"):
            self.refused(2, f"a^{end}")
            self.refused(4, f"a ^ {end} + 1")
            self.refused(7, f"root(x^{end}, 0..1)")
            self.refused(9, f"root(2*x^{end}, 0..1)")
        self.refused(3, "a^2^3")
        self.refused(3, "a^2(")
        self.refused(3, "a^2b")
        self.refused(8, "root(x^2^2, 0..1)")

    def test_a_nought_below(self):
        self.refused(10, "root(x, 1/0..2)")
        self.refused(13, "root(x, 0..1/0)")
        self.refused(11, "root(x, -1/0..2)")
        self.refused(12, "root(x, 1 / 0 ..2)")
        self.assertEqual(shown(read("1/0")), shown(Over(ONE, Whole(0))))

    def test_words(self):
        self.refused(0, "abcdefghi")
        self.refused(4, "a + ninelette")
        self.refused(0, "sqrtsqrts(2)")
        self.refused(0, "x")
        self.refused(4, "2 + x")
        self.refused(1, "(x)")
        self.refused(5, "sqrt(x)")
        self.refused(1, "-x")
        self.refused(4, "sqrt")
        self.refused(4, "sqrt+")
        self.refused(5, "sqrt a")
        self.refused(5, "cbrt sqrt(2)")
        self.refused(5, "root a(2)")
        self.refused(1, "a(2)")
        self.refused(2, "a sqrt(2)")
        self.refused(5, "root(a, 1..2)")
        self.refused(5, "root(sqrt(2), 1..2)")
        self.refused(5, "root(root(x, 1..2), 1..2)")
        self.refused(5, "root(xx, 1..2)")
        self.refused(7, "root(x x, 1..2)")
        self.refused(6, "root(2x, 1..2)")
        self.refused(7, "root(2*sqrt, 1..2)")
        self.refused(8, "root(x, a..2)")
        self.refused(8, "root(x, x..2)")
        self.refused(11, "root(x, 1..b)")

    def test_marks_where_they_cannot_stand(self):
        for text, at in (("+a", 0), ("*a", 0), ("/a", 0), ("^2", 0), (")", 0), (",", 0), ("..", 0), ("--a", 1), ("- -a", 2), ("a ++ b", 3), ("a +* b", 3), ("a**2", 2),
                         ("a - - - b", 6), ("a)", 1), ("(a))", 3), ("()", 1), ("sqrt()", 5), ("(a,", 2), ("a, b", 1), ("a..b", 1), ("1..2", 1), ("(a..", 2),
                         ("sqrt(a, b)", 6), ("root()", 5), ("root(x)", 6), ("root(x, )", 8), ("root(x, 1)", 9), ("root(x, 1, 2)", 9), ("root(x, 1..)", 11),
                         ("root(x, 1..2,", 12), ("root(x, 1..2..", 12), ("root(x..", 6), ("root(x, ..", 8), ("root(x, --1", 9), ("root(x, 1+", 9), ("root(x, 1*", 9),
                         ("root(x, 1/-", 10), ("root(x, 1/2/", 11), ("root(x, 1..2/3/", 14), ("root((x), ", 5), ("root(--x", 6), ("root(+x", 5), ("root(x + -", 9),
                         ("root(x - -1", 9), ("root(x*2", 6), ("root(x/2", 6), ("root(2/3", 6), ("root(2*3", 7), ("root(2*-x", 7), ("root(2^2", 6), ("root(2**x", 7),
                         ("root(x^2*2", 8), ("root(x^2^2", 8), ("root(x^2 2", 9), ("root(x^2 x", 9), ("root(x 2", 7), ("root(2 2", 7), ("root(*x", 5), ("root(,", 5), ("(a)(b)", 3), ("(a)b", 3),
                         ("(a)2", 3), ("2(a)", 1), ("a 2", 2), ("root(x, 1..2)2", 13), ("root(x, 1 2", 10), ("root(x, 1..2 3", 13), ("root, ", 4), ("root x", 5)):
            self.refused(at, text)

    def test_signs_that_are_no_marks(self):
        for sign in ("A", "Z", "_", "=", "!", "\t", "\n", "\r", "&", "[", "]", "{", "}", ":", ";", "'", '"', "\\", "%", "#", "@", "~", "$", "<", ">", "?", "|", "`", ".",
                     "\u00e4", "\u00b2", "\u0663", "\u00a0", "\u221a", "\x00"):
            self.refused(0, sign)
            self.refused(1, f"a{sign}")
            self.refused(3, f"a +{sign} b")
            self.refused(1, f"2{sign}3")
            self.refused(5, f"root({sign}x, 1..2)")
            self.refused(9, f"root(x, 1{sign}..2)" if sign != "." else "root(x, 1.2..3)")

    def test_points(self):
        self.refused(1, "1.5")
        self.refused(9, "root(x, 1.2)")
        self.refused(9, "root(x, 1. .2)")
        self.refused(11, "root(x, 1...2)")
        self.refused(11, "root(x, 1....2)")
        self.refused(1, "1...2")
        self.refused(0, "...")

    def test_the_eleventh_bracket(self):
        self.refused(10, "(" * 11)
        self.refused(10, "(" * 11 + "a" + ")" * 11)
        self.refused(50 + 4, "sqrt(" * 11 + "a" + ")" * 11)
        self.refused(10 + 4, "(" * 10 + "root(x, 0..1)")
        self.refused(10 + 5, "(" * 10 + "cbrt (a)")
        self.refused(10 + 4, "(" * 10 + "sqrt+")
        self.refused(10 + 4, "(" * 10 + "root)")
        self.refused(14, "(" * 9 + "sqrt((")
        self.refused(16, "(" * 10 + "a) + ((sqrt(b")
        self.refused(20, "(" * 10 + "a) + (sqrt(b")
        self.refused(1 + 1 + 35 + 3, "1+" + "sqrt(" * 7 + "(" * 4)
        # Those that are closed again do not count.
        self.assertEqual(shown(read("(a)*" * 20 + "a")), shown(read("a*" * 20 + "a")))
        self.refused(20, "((((((((((a)*b)*(c*((")

    def test_a_wrong_mark_ahead_of_a_missing_end(self):
        self.refused(3, "(a x")
        self.refused(1, "(+")
        self.refused(5, "((a +*")
        self.refused(0, "=(((")
        self.refused(1, "(007")
        self.refused(5, "root(a")
        # The first one of several.
        self.refused(2, "a x = 007")
        self.refused(0, ") 007")

    def test_blanks_count_for_the_place(self):
        self.refused(5, "  a  b")
        self.refused(6, "a +   ")
        self.refused(4, "    ")
        self.refused(3, "   )")

    def test_drawn_ones(self):
        drawn = Drawn(33)
        places = 0
        for _ in range(3000):
            marks = drawn.sum(drawn.pick(0, 1, 1, 2))
            text = drawn.text(drawn.spoilt(marks))
            at = wrong_place(text)
            if at is None:
                self.assertEqual(shown(read(text)), shown(by_python(text)), text)
            else:
                self.refused(at, text)
                places += 1
        self.assertGreater(places, 2000)

    def test_texts_of_any_marks(self):
        source = random.Random(331)
        marks = ["+", "-", "*", "/", "^", "(", "(", ")", ",", "..", "x", "sqrt", "root(", "a", "0", "2", "9", " "]
        for _ in range(3000):
            text = "".join(source.choice(marks) for _ in range(source.randrange(9)))
            at = wrong_place(text)
            if at is None:
                read(text)
            else:
                self.refused(at, text)


class Polynomials(Reads):
    def test_told_ones(self):
        for text, row in (("0", []), ("5", [5]), ("-5", [-5]), ("x", [0, 1]), ("-x", [0, -1]), ("x^2 - 2", [-2, 0, 1]), ("1 + x", [1, 1]), ("3*x^8", [0] * 8 + [3]),
                          ("x^0", [1]), ("2*x^0 + x^1 - x", [2]), ("x - x", []), ("0*x^5 + 1", [1]), ("-0", []), ("x^3-x-1", [-1, -1, 0, 1]),
                          ("  x ^ 2  +  2 * x  ", [0, 2, 1]), ("x^2 + x^2 + x^2 - 7 + 3 - x^2", [-4, 0, 2]), ("10*x + 0", [0, 10])):
            self.assertEqual(read_poly(text), row, text)
            self.assertIs(type(read_poly(text)), list)

    def test_refused_ones(self):
        for text, at in (("", 0), ("  ", 2), ("-", 1), ("x +", 3), ("x + ", 4), ("2*", 2), ("x^", 2), ("x^9", 2), ("x^10", 2), ("007", 0), ("00*x", 0), ("+x", 0), ("--x", 1), ("x + -1", 4),
                         ("a", 0), ("xx", 0), ("2x", 1), ("x2", 1), ("x*2", 1), ("x/2", 1), ("2/3", 1), ("(x)", 0), ("x)", 1), ("x, 1", 1), ("x, 1..2", 1), ("x..", 1), ("x.", 1), ("2*3", 2),
                         ("sqrt(2)", 0), ("root(x, 1..2)", 0), ("x^2^2", 3), ("2^2", 1), ("x x", 2), ("x\t", 1), ("X", 0), ("x = 0", 2), ("2**x", 2), ("abcdefghi", 0), ("x^2x", 3)):
            self.refused(at, text, read_poly)

    def test_drawn_ones(self):
        drawn = Drawn(36)
        for _ in range(600):
            marks = drawn.poly()
            text = drawn.text(marks)
            self.assertIsNone(wrong_in_poly(text))
            self.assertEqual(read_poly(text), row_by_python(text), text)
            text = drawn.text(drawn.spoilt(marks))
            at = wrong_in_poly(text)
            if at is None:
                self.assertEqual(read_poly(text), row_by_python(text), text)
            else:
                self.refused(at, text, read_poly)


if __name__ == "__main__":
    unittest.main()
