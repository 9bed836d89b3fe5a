import random
import unittest
from fractions import Fraction

from rootspan.desk import Desk
from rootspan.errors import BelowNought, ByNought, NoName, NoRoot, NoRow, NoText, RootError, TooGreat, TooHigh

NAMES = ("a", "b", "c", "neg", "nil", "zzzzzzzz")


class Case(unittest.TestCase):
    # sqrt(2), its like, 1/3, below 0, 0, and the cube root of 2.
    def setUp(self):
        self.desk = Desk()
        for row in ("let a sqrt(2)", "let b root(x^2 - 2, 1..2)", "let c 1/3", "let neg -7/2", "let nil 0", "let zzzzzzzz cbrt(2)"):
            self.assertEqual(self.desk.say(row), "ok")

    def told(self, row, said, desk=None):
        found = (desk or self.desk).say(row)
        self.assertIs(type(found), str)
        self.assertEqual(found, said, row)

    def state(self, desk=None):
        desk = desk or self.desk
        names = [name for name in desk.say("order").replace(" = ", " < ").split(" < ") if name]
        return desk.say("order"), [(name, desk.say(f"poly {name}"), desk.say(f"show {name} 40"), desk.say(f"parts {name} 30")) for name in names]

    def refused(self, kind, row, desk=None):
        desk = desk or self.desk
        before = self.state(desk)
        with self.assertRaises(RootError) as caught:
            desk.say(row)
        self.assertIs(type(caught.exception), kind, row)
        self.assertEqual(self.state(desk), before, row)
        return caught.exception

    def no_name(self, word, row, desk=None):
        self.assertEqual(self.refused(NoName, row, desk).name, word, row)

    def no_text(self, at, row):
        self.assertEqual(self.refused(NoText, row).at, at, row)


class Rows(Case):
    def test_let_of_a_new_name(self):
        for name, text, told in (("d", "2", "2.000000"), ("e", "sqrt(2) + sqrt(3)", "3.146264"), ("abcdefgh", "-a*b", "-2.000000"), ("xx", "root(x^3 - x - 1, 1..2)", "1.324718"), ("sqrtx", "(1 + sqrt(5))/2", "1.618034")):
            self.told(f"let {name} {text}", "ok")
            self.told(f"show {name}", told)

    def test_let_of_an_old_name(self):
        self.told("let c 5", "ok")
        self.told("show c 0", "5")
        self.told("let c c + 1", "ok")
        self.told("show c 0", "6")
        self.told("let c c*c - c", "ok")
        self.told("show c 0", "30")
        self.told("let a -a", "ok")
        self.told("show a 3", "-1.414")
        # What was made of it stays as it was.
        self.told("let d a^2 + c", "ok")
        self.told("let a 100", "ok")
        self.told("drop c", "ok")
        self.told("show d 2", "32.00")
        self.told("show b 3", "1.414")

    def test_let_with_blanks_in_the_text(self):
        self.told("let d  1 + 2 ", "ok")
        self.told("show d 0", "3")
        self.told("let d   sqrt ( 2 )  ", "ok")
        self.told("compare d a", "=")
        self.told("let d 1+2*3-4/5", "ok")
        self.told("show d 1", "6.2")
        self.told("let d root( x ^ 2 - 2 , 0 .. 2 )", "ok")
        self.told("compare d a", "=")

    def test_let_of_a_name_by_a_name(self):
        self.told("let d a", "ok")
        self.told("let a 7", "ok")
        self.told("compare d b", "=")
        self.told("show a 0", "7")
        self.told("drop b", "ok")
        self.told("show d 3", "1.414")

    def test_drop(self):
        self.told("drop a", "ok")
        self.no_name("a", "show a")
        self.no_name("a", "drop a")
        self.no_name("a", "let d a + 1")
        self.told("show b", "1.414214")
        self.told("let a 4", "ok")
        self.told("show a 0", "4")
        for name in NAMES:
            self.told(f"drop {name}", "ok")
        self.told("order", "")

    def test_show(self):
        self.told("show a", "1.414214")
        self.told("show neg", "-3.500000")
        self.told("show nil", "0.000000")
        self.told("show c", "0.333333")
        self.told("show a 0", "1")
        self.told("show neg 0", "-4")
        self.told("show a 1", "1.4")
        self.told("show a 6", "1.414214")
        self.told("show a 10", "1.4142135624")
        self.told("show a 39", "1.414213562373095048801688724209698078570")
        self.told("show a 40", "1.4142135623730950488016887242096980785697")
        self.told("show zzzzzzzz 5", "1.25992")

    def test_poly(self):
        self.told("poly a", "x^2 - 2")
        self.told("poly c", "3*x - 1")
        self.told("poly neg", "2*x + 7")
        self.told("poly nil", "x")
        self.told("poly zzzzzzzz", "x^3 - 2")
        self.told("let d a + zzzzzzzz", "ok")
        self.told("poly d", "x^6 - 6*x^4 - 4*x^3 + 12*x^2 - 24*x - 4")

    def test_sign(self):
        for name, told in (("a", "above"), ("c", "above"), ("neg", "below"), ("nil", "nought"), ("zzzzzzzz", "above")):
            self.told(f"sign {name}", told)
        self.told("let d a - b", "ok")
        self.told("sign d", "nought")
        self.told("let d 1/3 - a", "ok")
        self.told("sign d", "below")

    def test_compare(self):
        for one, other, told in (("a", "b", "="), ("b", "a", "="), ("a", "a", "="), ("a", "c", ">"), ("c", "a", "<"), ("neg", "nil", "<"), ("nil", "neg", ">"), ("zzzzzzzz", "a", "<"), ("a", "zzzzzzzz", ">")):
            self.told(f"compare {one} {other}", told)

    def test_parts(self):
        self.told("parts a 1", "1")
        self.told("parts a 2", "1 2")
        self.told("parts a 30", "1" + " 2" * 29)
        self.told("parts c 30", "0 3")
        self.told("parts c 1", "0")
        self.told("parts neg 30", "-4 2")
        self.told("parts neg 10", "-4 2")
        self.told("parts nil 9", "0")
        self.told("parts zzzzzzzz 12", "1 3 1 5 1 1 4 1 1 8 1 14")

    def test_order(self):
        self.told("order", "neg < nil < c < zzzzzzzz < a = b")
        self.told("let aa -7/2", "ok")
        self.told("let zz sqrt(8)/2", "ok")
        self.told("let ab -3 - 1/2", "ok")
        self.told("order", "aa = ab = neg < nil < c < zzzzzzzz < a = b = zz")
        self.told("order", "", Desk())
        desk = Desk()
        desk.say("let z 1")
        self.told("order", "z", desk)
        desk.say("let y 1")
        self.told("order", "y = z", desk)
        desk.say("let x" + "x 1/2")
        self.told("order", "xx < y = z", desk)
        desk.say("let z 0")
        self.told("order", "z < xx < y", desk)
        desk.say("let b 1")
        desk.say("let a 2")
        desk.say("let c 2")
        self.told("order", "z < xx < b = y < a = c", desk)

    def test_order_of_many(self):
        source = random.Random(42)
        desk = Desk()
        kept = {}
        for _ in range(60):
            name = "".join(source.choice("abcd") for _ in range(source.randrange(1, 4)))
            value = Fraction(source.randrange(-9, 10), source.randrange(1, 4))
            kept[name] = value
            self.told(f"let {name} {value}", "ok", desk)
        names = sorted(kept, key=lambda name: (kept[name], name))
        told = names[0]
        for one, other in zip(names, names[1:]):
            told += (" = " if kept[one] == kept[other] else " < ") + other
        self.told("order", told, desk)

    def test_names_of_the_rows_own_words(self):
        for name in ("let", "drop", "show", "poly", "sign", "compare", "parts", "order"):
            self.told(f"let {name} 3", "ok")
            self.told(f"show {name} 1", "3.0")
        self.told("let let let + show", "ok")
        self.told("show let 0", "6")
        self.told("compare compare order", "=")
        self.told("drop drop", "ok")
        self.no_name("drop", "sign drop")

    def test_desks_keep_apart(self):
        other = Desk()
        self.told("order", "", other)
        self.told("let a 5", "ok", other)
        self.told("show a 0", "5", other)
        self.told("show a 0", "1")
        self.told("drop b", "ok")
        self.no_name("b", "show b", other)
        self.told("let b 6", "ok", other)
        self.no_name("b", "show b")


class NoRows(Case):
    def test_what_is_no_row(self):
        for row in ("", " ", "  ", "a", "let", "let ", "let a", "drop", "show", "poly", "sign", "compare", "compare a", "parts", "parts a", "order a", "drop a b", "poly a b", "sign a b", "compare a b c",
                    "parts a 5 6", "show a 5 6", "hello a", "letx a 1", "lets", "orders", "sqrt(2)", "a b", "let\ta\t1", "show\ta", "order\n", "\n", "let\n"):
            self.refused(NoRow, row)

    def test_blanks(self):
        for row in (" order", "order ", " show a", "show a ", "show  a", " let a 1", "poly a ", "poly  a", "sign a  ", " drop a", "compare a b ", " compare a b", "compare  a b", "compare a  b", "parts a 5 ", "parts  a 5", "parts a  5",
                    "show a  5", "show a 5 ", "  order", "drop a ", "drop  a"):
            self.refused(NoRow, row)
        self.no_name("", "drop ")
        self.no_name("", "show ")
        self.no_name("", "poly ")
        self.no_name("", "sign ")
        self.no_name("", "compare  ")
        self.no_name("", "compare a ")
        self.no_name("", "compare  a")
        self.no_name("", "parts  5")
        self.no_name("", "show  5")
        self.no_name("", "let  5")
        self.no_name("", "let  ")
        self.refused(NoRow, "parts a ")
        self.refused(NoRow, "show a ")

    def test_capitals(self):
        for row in ("ORDER", "Order", "LET a 1", "Let a 1", "SHOW a", "Show a 5", "Drop a", "POLY a", "Sign a", "Compare a b", "Parts a 3"):
            self.refused(NoRow, row)
        self.no_name("A", "show A")
        self.no_name("A", "let A 1")
        self.no_name("aB", "let aB 1")

    def test_places(self):
        for places in ("41", "100", "007", "00", "01", "040", "-1", "+1", "1.0", "a", "x", "", "4 0", "1e1", "4_0", "\u0664", "\u00b2", " 5", "9" * 50, "9" * 5000, "5\n", "5\t"):
            self.refused(NoRow, f"show a {places}")
        for places in (0, 9, 10, 40):
            self.assertEqual(len(self.desk.say(f"show a {places}")), places + 2 if places else 1)

    def test_many(self):
        for many in ("0", "31", "32", "100", "007", "00", "01", "03", "-1", "+3", "3.0", "a", "", "3 0", "\u0663", "9" * 5000):
            self.refused(NoRow, f"parts a {many}")
        for many in (1, 9, 10, 29, 30):
            self.assertEqual(len(self.desk.say(f"parts a {many}").split(" ")), many)

    def test_ahead_of_names(self):
        for row in ("show no 41", "show x 007", "parts no 0", "parts x 31", "parts no", "compare no", "compare no no no", "poly no no", "let no", "show no 5 6", "order no"):
            self.refused(NoRow, row)


class NoNames(Case):
    def test_names_that_are_not_kept(self):
        for word in ("d", "aa", "ab", "eightlet", "order", "y"):
            for row in ("drop #", "show #", "show # 5", "poly #", "sign #", "parts # 5", "compare # a", "compare a #", "compare # #"):
                self.no_name(word, row.replace("#", word))
                self.no_name(word, row.replace("#", word), Desk()) if "a #" not in row else None

    def test_what_is_no_name(self):
        for word in ("x", "sqrt", "cbrt", "root", "nineletts", "A", "aB", "a1", "1", "7", "a-", "-a", "a_b", "(a)", "", "\u00e4", "a\t", "\ta", "a\n", "a,", "..", "sqrt(2)"):
            for row in ("drop #", "show #", "show # 5", "poly #", "sign #", "parts # 5", "compare # a", "compare a #", "let # 1", "let # 1/0", "let # (("):
                self.no_name(word, row.replace("#", word))

    def test_the_first_one_from_the_left(self):
        self.no_name("d", "compare d e")
        self.no_name("e", "compare e d")
        self.no_name("e", "compare a e")
        self.no_name("x", "compare x d")
        self.no_name("d", "compare d x")
        self.no_name("Q", "compare Q Q")

    def test_names_in_a_text(self):
        self.no_name("d", "let e d + 1")
        self.no_name("e", "let e e + 1")
        self.no_name("f", "let e a + f*d")
        self.no_name("d", "let a a + d")
        self.no_name("d", "let e d^0")


class Texts(Case):
    def test_texts_that_are_none(self):
        self.no_text(0, "let d ")
        self.no_text(1, "let d  ")
        self.no_text(3, "let d    ")
        self.no_text(0, "let d x")
        self.no_text(0, "let d 007")
        self.no_text(4, "let d a + ")
        self.no_text(3, "let d a  b")
        self.no_text(2, "let a a^9")
        self.no_text(10, "let a " + "(" * 11)
        self.no_text(0, "let a =5")
        self.no_text(1, "let a 5\n")

    def test_what_a_worth_refuses(self):
        self.refused(ByNought, "let d 1/0")
        self.refused(ByNought, "let a a/(a - b)")
        self.refused(BelowNought, "let a sqrt(neg)")
        self.assertEqual(self.refused(TooHigh, "let d zzzzzzzz*zzzzzzzz").degree, 9)
        self.assertEqual(self.refused(NoRoot, "let d root(x^2 - 2, -2..2)").many, 2)
        self.refused(TooGreat, "let d " + "9" * 121)
        self.refused(TooGreat, "let d (10^8)^8*(10^8)^8")

    def test_in_their_order(self):
        # A row that is none, then a name that is none, then the text, then its worth.
        self.refused(NoRow, "let x")
        self.no_name("x", "let x ((")
        self.no_name("x", "let x 1/0")
        self.no_text(3, "let d 1/0(")
        self.no_text(1, "let d d(")
        self.no_name("d", "let e d/0")
        self.refused(ByNought, "let e 1/0 + d")

    # The names that are refused are not kept, those that were kept still are.
    def test_it_changes_nothing(self):
        for row in ("let d 1/0", "let d (", "let a 1/0", "let a (", "let a d", "let d d"):
            with self.assertRaises(RootError):
                self.desk.say(row)
        self.no_name("d", "show d")
        self.told("show a", "1.414214")
        self.told("order", "neg < nil < c < zzzzzzzz < a = b")

    def test_a_long_talk(self):
        desk = Desk()
        talk = [
            ("let g (1 + sqrt(5))/2", "ok"), ("poly g", "x^2 - x - 1"), ("let h g^2 - g", "ok"), ("show h 0", "1"), ("compare g h", ">"), ("let i 1/g", "ok"), ("let j g - 1", "ok"),
            ("compare i j", "="), ("order", "i = j < h < g"), ("parts g 5", "1 1 1 1 1"), ("let g cbrt(2 + sqrt(5))", "ok"), ("poly g", "x^2 - x - 1"), ("drop h", "ok"), ("order", "i = j < g"),
            ("let g g^8", "ok"), ("poly g", "x^2 - 47*x + 1"), ("show g 3", "46.979"), ("sign g", "above"), ("let g -g", "ok"), ("sign g", "below"), ("order", "g < i = j"),
        ]
        for row, said in talk:
            self.told(row, said, desk)


if __name__ == "__main__":
    unittest.main()
