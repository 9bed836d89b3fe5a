import random
import unittest
from copy import deepcopy
from fractions import Fraction
from math import gcd

from helpers import GREAT, Known, look_at_sharing, plain_of, product, ratio, raised, rational, row_with, shown, squares, value, worth
from rootspan.looker import just_one, takes
from rootspan.numbers import Number, compare, fraction, number, roots
from rootspan.papers import order_paper, root_paper
from rootspan.ratios import Ratio
from test_comparing import RISING


def trimmed(row):
    row = list(row)
    while row and row[-1] == 0:
        row.pop()
    return row


def shrunk_of(row):
    return [c // gcd(*row) for c in row] if row else []


def slope_of(row):
    return trimmed([k * c for k, c in enumerate(row)][1:])


def less(one, other):
    size = max(len(one), len(other))
    return trimmed([a - b for a, b in zip(one + [0] * (size - len(one)), other + [0] * (size - len(other)))])


# Factor, quotient and rest, by fractions.
def divided_of(one, other):
    steps = len(one) - len(other) + 1
    factor = abs(other[-1]) ** steps if steps > 0 else 1
    rest, quotient = [Fraction(factor * c) for c in one], [Fraction(0)] * max(steps, 0)
    for k in range(steps - 1, -1, -1):
        quotient[k] = rest[k + len(other) - 1] / other[-1]
        for j, c in enumerate(other):
            rest[k + j] -= quotient[k] * c
    return factor, [int(c) for c in trimmed(quotient)], [int(c) for c in trimmed(rest)]


# The paper of a polynomial, by fractions: what 39 tells.
def paper_of(row):
    chain, links = [shrunk_of(row), shrunk_of(slope_of(row))], []
    while True:
        factor, quotient, rest = divided_of(chain[-2], chain[-1])
        if rest == []:
            return chain, links
        chain.append([-c for c in shrunk_of(rest)])
        links.append((factor, quotient, gcd(*rest)))


# Whether the sentence of 39 holds for each link.
def sentences(row, links):
    return all(trimmed(product([factor], row[k])) == less(product(quotient, row[k + 1]), product([shrink], row[k + 2])) for k, (factor, quotient, shrink) in enumerate(links))


SAMPLES = [
    number([-2, 0, 1], Ratio(0)), number([-2, 0, 1], None, Ratio(0)), number([-1, -1, 1], Ratio(0)), number([-2, 0, 0, 1]), number([-1, -1, 0, 1]), roots([1, -3, 0, 1])[1],
    number([0, -2, 0, 0, 1], Ratio(0)), number([-2, 0, 0, 0, 1], Ratio(0)), number([1, 0, -10, 0, 1], Ratio(1), Ratio(4)), number([-4, -24, 12, -4, -6, 0, 1], Ratio(0)),
    number([576, 0, -960, 0, 352, 0, -40, 0, 1], Ratio(5)), number([-2] + [0] * 7 + [1], Ratio(0)), number(GREAT), number([-10 ** 119, 3, 0, 0, 7], Ratio(0)),
    Number([-2, 0, 0, 1], Ratio(-100), Ratio(100)),
]
LINES = [fraction(ratio(Fraction(at))) for at in ("0", "1", "-7", "1/2", "-22/7")] + [Number([-1, 2], Ratio(0), Ratio(1, 2))]


class RootPaper(unittest.TestCase):
    def test_what_it_is(self):
        for one in SAMPLES + LINES:
            said = root_paper(one)
            self.assertIs(type(said), tuple)
            self.assertEqual(len(said), 2)
            row, links = said
            self.assertEqual((type(row), type(links)), (list, list))
            self.assertTrue(all(type(link) is tuple and len(link) == 3 for link in links))
            self.assertEqual((row, links), paper_of(one.poly))
            self.assertEqual(len(links), len(row) - 2)
            self.assertTrue(sentences(row, links))
            self.assertEqual(len(row[-1]), 1)

    def test_told_ones(self):
        self.assertEqual(root_paper(fraction(Ratio(1, 2))), ([[-1, 2], [1]], []))
        self.assertEqual(root_paper(fraction(Ratio(0))), ([[0, 1], [1]], []))
        self.assertEqual(root_paper(number([-2, 0, 1], Ratio(0))), ([[-2, 0, 1], [0, 1], [1]], [(1, [0, 1], 2)]))
        said = root_paper(number([-2, 0, 0, 1]))
        self.assertEqual(said, ([[-2, 0, 0, 1], [0, 0, 1], [1]], [(1, [0, 1], 2)]))
        said = root_paper(number([-1, -1, 0, 1]))
        self.assertEqual(said, ([[-1, -1, 0, 1], [-1, 0, 3], [3, 2], [-1]], [(9, [0, 3], 3), (4, [-9, 6], 23)]))

    def test_the_looker_takes_it(self):
        for one in SAMPLES + LINES:
            self.assertIs(just_one(one.poly, one.low, one.high, root_paper(one)), True)

    def test_new_lists_each_time(self):
        for one in SAMPLES + LINES:
            first = root_paper(one)
            kept, before = deepcopy(first), shown(one, True)
            for row in first[0]:
                row.append(5)
            first[0].append([1])
            for link in first[1]:
                link[1].append(7)
            first[1].append((1, [1], 1))
            self.assertEqual(root_paper(one), kept)
            self.assertEqual(shown(one, True), before)
            look_at_sharing(self, root_paper, lambda: [one])


class JustOne(unittest.TestCase):
    # Of a polynomial whose real roots are all known.
    def look_at_spans(self, row, known, ends):
        paper = paper_of(row)
        for low in ends:
            for high in ends:
                many = sum(root.within(low, high) for root in known) if low < high else 0
                kept = deepcopy(paper)
                said = just_one(row, ratio(low), ratio(high), paper)
                self.assertIs(said, low < high and many == 1, (row, low, high))
                self.assertEqual(paper, kept)

    def test_spans(self):
        ends = [Fraction(end) for end in (-10 ** 20, -3, -2, "-3/2", -1, 0, "1/2", 1, "7/5", "3/2", 2, 3, 10 ** 20)]
        self.look_at_spans([-2, 0, 1], squares(0, 2), ends)
        self.look_at_spans([-1, 2], rational(Fraction(1, 2)), ends)
        self.look_at_spans([0, 1], rational(0), ends)
        self.look_at_spans([0, -1, 0, 1], rational(-1, 0, 1), ends)
        self.look_at_spans([-2, 0, 0, 1], [Known(0, 1, 2, 3)], ends)
        self.look_at_spans([1, 0, 1], [], ends)
        self.look_at_spans(row_with(rational(*range(-3, 4))), rational(*range(-3, 4)), ends)
        known = squares(0, 2) + rational(1, Fraction(3, 2))
        self.look_at_spans(row_with(known, [[1, 0, 1]]), known, ends)

    def test_polynomials_with_squares(self):
        for row in (raised([-1, 1], 2), product(raised([-1, 1], 2), [-2, 1]), raised([-2, 0, 1], 2)):
            paper = paper_of(row)
            for low, high in ((0, 1), (0, 3), (1, 3), (Fraction(3, 2), 3)):
                self.assertIs(just_one(row, ratio(low), ratio(high), paper), False)

    def wrong(self, one, paper):
        kept = deepcopy(paper)
        self.assertIs(just_one(one.poly, one.low, one.high, paper), False, (one.poly, paper))
        self.assertEqual(paper, kept)

    def test_a_changed_row(self):
        for one in SAMPLES[:9] + LINES:
            row, links = root_paper(one)
            for k in range(len(row)):
                for place in range(len(row[k])):
                    for step in (1, -1, 7):
                        other = deepcopy(row)
                        other[k][place] += step
                        other[k] = trimmed(other[k])
                        self.wrong(one, (other, links))
                for other in ([], [1], [-1], [0, 1], [-c for c in row[k]], [2 * c for c in row[k]], row[k] + [1], row[k][:-1] and trimmed(row[k][:-1])):
                    if other != row[k]:
                        self.wrong(one, (row[:k] + [other] + row[k + 1:], links))

    def test_its_order_and_length(self):
        for one in SAMPLES + LINES:
            row, links = root_paper(one)
            self.wrong(one, (list(reversed(row)), links))
            self.wrong(one, (list(reversed(row)), list(reversed(links))))
            for j in range(len(row)):
                for k in range(j):
                    swapped = list(row)
                    swapped[j], swapped[k] = row[k], row[j]
                    self.wrong(one, (swapped, links))
                self.wrong(one, (row[:j], links))
                self.wrong(one, (row[:j], links[:max(j - 2, 0)]))
                self.wrong(one, (row[:j] + row[j + 1:], links))
                self.wrong(one, (row[:j] + [row[j]] + row[j:], links))
            for end in ([], [1], [-1], [0, 1]):
                self.wrong(one, (row + [end], links))
                self.wrong(one, (row + [end], links + [(1, [1], 1)]))
            self.wrong(one, ([], []))
            self.wrong(one, (row[:1], []))
            self.wrong(one, ([], links))

    # The last one must be of degree 0, though all else holds.
    def test_the_last_one(self):
        one = number([-1, -1, 0, 1])
        row, links = root_paper(one)
        self.wrong(one, (row[:-1], links[:-1]))
        # x divides x, so an [] behind holds with a quotient that is whole.
        one = fraction(Ratio(0))
        self.wrong(one, ([[0, 1], [1], []], [(1, [0, 1], 1)]))
        self.assertIs(just_one([0, 1], Ratio(-1), Ratio(1), ([[0, 1], [1]], [])), True)

    def test_changed_links(self):
        for one in SAMPLES:
            row, links = root_paper(one)
            for k, (factor, quotient, shrink) in enumerate(links):
                others = [(factor + 1, quotient, shrink), (factor - 1, quotient, shrink), (-factor, quotient, shrink), (0, quotient, shrink), (2 * factor, quotient, shrink),
                          (factor, quotient, shrink + 1), (factor, quotient, shrink - 1), (factor, quotient, -shrink), (factor, quotient, 0), (factor, quotient, 2 * shrink),
                          (factor, [], shrink), (factor, quotient + [1], shrink), (factor, [-c for c in quotient], shrink), (0, [], 0), (factor, quotient[:-1] and trimmed(quotient[:-1]), shrink)]
                others += [(factor, trimmed([c + (place == at) * step for at, c in enumerate(quotient)]), shrink) for place in range(len(quotient)) for step in (1, -1)]
                for other in others:
                    self.wrong(one, (row, links[:k] + [other] + links[k + 1:]))
                self.wrong(one, (row, links[:k] + links[k + 1:]))
                self.wrong(one, (row, links[:k] + [links[k]] + links[k:]))
            self.wrong(one, (row, links + [(1, [1], 1)]))
            self.wrong(one, (row, []))
            if len(links) > 1 and links[0] != links[-1]:
                self.wrong(one, (row, list(reversed(links))))
        for one in LINES:
            self.wrong(one, (root_paper(one)[0], [(1, [1], 1)]))

    # All signs of a link turned: its sentence still holds.
    def test_factors_below_nought(self):
        for one in SAMPLES:
            row, links = root_paper(one)
            for k, (factor, quotient, shrink) in enumerate(links):
                other = (-factor, [-c for c in quotient], -shrink)
                self.assertTrue(sentences(row, links[:k] + [other] + links[k + 1:]))
                self.wrong(one, (row, links[:k] + [other] + links[k + 1:]))

    # Sentences that hold with a factor of 0 or a shrink of 0.
    def test_factors_and_shrinks_of_nought(self):
        one = fraction(Ratio(1, 2))
        for row, links in (([[-1, 2], [1], [3]], [(0, [3], 1)]), ([[-1, 2], [1], [5]], [(1, [-1, 2], 0)]), ([[-1, 2], [1], [5]], [(0, [], 0)]), ([[-1, 2], [1], [-1]], [(0, [-1], 1)])):
            self.assertTrue(sentences(row, links))
            self.wrong(one, (row, links))
        self.assertIs(just_one(one.poly, one.low, one.high, ([[-1, 2], [1], [3]], [(1, [2, 2], 1)])), True)

    # With a factor or a shrink below 0 and rows to match, the sentences hold and the changes would lie.
    def test_rows_with_turned_signs(self):
        one = number([-2, 0, 1], Ratio(0))
        self.assertTrue(sentences([[-2, 0, 1], [0, 1], [-1]], [(1, [0, 1], -2)]))
        for row, links in (([[-2, 0, 1], [0, 1], [-1]], [(1, [0, 1], -2)]), ([[-2, 0, 1], [0, 1], [-2]], [(1, [0, 1], -1)]), ([[-2, 0, 1], [0, 1], [-1]], [(-1, [0, -1], 2)])):
            for low, high in ((-2, 0), (0, 2), (-2, 2), (2, 3)):
                self.assertIs(just_one([-2, 0, 1], Ratio(low), Ratio(high), (row, links)), False)
        self.assertTrue(just_one(one.poly, one.low, one.high, root_paper(one)))

    def test_the_wrong_polynomial(self):
        for one in SAMPLES:
            for other in SAMPLES:
                if one.poly != other.poly:
                    self.wrong(one, root_paper(other))
        row, links = root_paper(SAMPLES[0])
        self.assertIs(just_one([-8, 0, 1], Ratio(0), Ratio(4), (row, links)), False)
        self.assertIs(just_one([-3, 0, 1], Ratio(0), Ratio(4), (row, links)), False)

    # Not the very paper of 39, but one that holds: it is taken.
    def test_other_papers_that_hold(self):
        one = number([-2, 0, 1], Ratio(0))
        for row, links in (
            ([[-2, 0, 1], [0, 1], [1]], [(3, [0, 3], 6)]),
            ([[-2, 0, 1], [0, 1], [2]], [(1, [0, 1], 1)]),
            ([[-2, 0, 1], [0, 1], [2]], [(5, [0, 5], 5)]),
            ([[-2, 0, 1], [0, 1], [1], [3]], [(1, [0, 1], 2), (1, [3, 1], 1)]),
            ([[-2, 0, 1], [0, 1], [1], [], [-1]], [(1, [0, 1], 2), (1, [0, 1], 1), (4, [], 4)]),
        ):
            self.assertTrue(sentences(row, links))
            for low, high, told in ((0, 2, True), (-2, 0, True), (-2, 2, False), (2, 3, False), (2, 0, False), (0, 0, False), (Fraction(7, 5), Fraction(3, 2), True)):
                self.assertIs(just_one(one.poly, ratio(low), ratio(high), (row, links)), told)

    # What is taken is right, whatever was handed in.
    def test_drawn_ones(self):
        source = random.Random(40)
        known = squares(0, 2) + rational(1, Fraction(-3, 2))
        row = row_with(known)
        taken = 0
        for _ in range(1500):
            chain, links = deepcopy(paper_of(row))
            for _ in range(source.choice((0, 1, 2))):
                at = source.randrange(len(links))
                way = source.randrange(4)
                if way == 0:
                    size = source.choice((2, 3, -1))
                    links[at] = (size * links[at][0], [size * c for c in links[at][1]], size * links[at][2])
                elif way == 1:
                    chain[at] = [source.choice((1, -1, 2)) * c for c in chain[at]]
                elif way == 2:
                    links[at] = (links[at][0], links[at][1], source.choice((1, -1)) * links[at][2])
            low, high = [Fraction(source.randrange(-9, 10), source.choice((2, 3))) for _ in range(2)]
            if just_one(row, ratio(low), ratio(high), (chain, links)):
                self.assertTrue(low < high and sum(root.within(low, high) for root in known) == 1)
                taken += 1
        self.assertGreater(taken, 50)

    def test_nothing_is_shared(self):
        for one in SAMPLES[:6]:
            look_at_sharing(self, just_one, lambda: [list(one.poly), one.low, one.high, root_paper(one)])


def changes(row, low, high):
    start, end = value(row, low), value(row, high)
    return low < high and start != 0 and (end == 0 or (start < 0) != (end < 0))


def inside(one, low, high):
    return worth(one.low) <= low and high <= worth(one.high)


def goes_into(part, row):
    return divided_of(row, part)[2] == []


# What 41 tells of a paper, by fractions.
def right(a, b, paper):
    if paper[0] == "alike":
        part, low, high = paper[1], worth(paper[2]), worth(paper[3])
        return len(part) > 1 and goes_into(part, a.poly) and goes_into(part, b.poly) and changes(part, low, high) and inside(a, low, high) and inside(b, low, high)
    low, high, lower, higher = [worth(end) for end in paper[1:]]
    if not (inside(a, low, high) and changes(a.poly, low, high) and inside(b, lower, higher) and changes(b.poly, lower, higher)):
        return False
    return high <= lower if paper[0] == "under" else higher <= low


class OrderPaper(unittest.TestCase):
    def look(self, a, b, order):
        kept = shown([a, b], True)
        said = order_paper(a, b)
        self.assertIs(type(said), tuple)
        self.assertEqual(said[0], {-1: "under", 0: "alike", 1: "over"}[order])
        self.assertEqual(len(said), 4 if order == 0 else 5)
        if order == 0:
            self.assertIs(type(said[1]), list)
        self.assertEqual({type(end) for end in said[2 if order == 0 else 1:]}, {Ratio})
        self.assertTrue(right(a, b, said))
        self.assertIs(takes(a, b, said), True)
        self.assertIs(takes(b, a, said), order == 0)
        self.assertEqual(shown([a, b], True), kept)

    def test_all_of_them(self):
        for j, ones in enumerate(RISING):
            for k, others in enumerate(RISING):
                for one in ones[:4]:
                    for other in others[:3]:
                        self.look(one, other, (j > k) - (j < k))

    def test_alike_ones_with_other_polys_and_spans(self):
        for ones in RISING:
            for one in ones:
                for other in ones:
                    self.look(one, other, 0)

    def test_very_near_ones(self):
        near = Fraction(1, 10 ** 119)
        self.look(fraction(ratio(near)), fraction(Ratio(0)), 1)
        self.look(fraction(ratio(-near)), fraction(ratio(near)), -1)
        a = 10 ** 50
        row = less([0] * 8 + [1], product([2], raised([-1, a], 2)))
        found = roots(row)
        for j, one in enumerate(found):
            for k, other in enumerate(found):
                self.look(one, other, (j > k) - (j < k))

    def test_hand_made_ones(self):
        wide = [Number([-1, 2], Ratio(-10 ** 30), Ratio(10 ** 30)), Number([-2, 0, 0, 1], Ratio(-10 ** 30), Ratio(10 ** 30)), Number([-1, 2], Ratio(0), Ratio(1, 2)), Number([0, 1], Ratio(-1), Ratio(0))]
        for one in wide:
            for other in wide:
                self.look(one, other, compare(one, other))

    def test_nothing_is_shared(self):
        pairs = [(RISING[14][2], RISING[14][5]), (RISING[2][0], RISING[3][1]), (RISING[9][0], RISING[8][0])]
        for one, other in pairs:
            first = order_paper(one, other)
            kept = shown(first)
            for thing in first:
                if isinstance(thing, list):
                    thing.append(1)
            self.assertEqual(shown(order_paper(one, other)), kept)
            look_at_sharing(self, order_paper, lambda: [one, other])
            look_at_sharing(self, takes, lambda: [one, other, order_paper(one, other)])


TWO = number([-2, 0, 0, 1])
MIXED = number(product([-2, 0, 0, 1], [-5, 1], [0, 1]), Ratio(1), Ratio(3))
HALF = Number([-1, 2], Ratio(0), Ratio(1))
SQUARE = Number([-2, 0, 1], Ratio(1), Ratio(2))


class Takes(unittest.TestCase):
    def look(self, told, a, b, *paper):
        kept = shown([a, b, paper], True)
        self.assertIs(takes(a, b, paper), told, shown(paper))
        self.assertEqual(right(a, b, paper), told)
        self.assertEqual(shown([a, b, paper], True), kept)

    def test_alike(self):
        cube = [-2, 0, 0, 1]
        one, other = Number(cube, Ratio(0), Ratio(2)), Number(product(cube, [-5, 1]), Ratio(1), Ratio(3))
        for low, high, told in ((1, 2, True), (Fraction(5, 4), Fraction(4, 3), True), (0, 2, False), (1, 3, False), (Fraction(1, 2), 2, False), (1, Fraction(5, 4), False), (Fraction(4, 3), 2, False),
                                (2, 1, False), (1, 1, False), (Fraction(4, 3), Fraction(5, 4), False)):
            for row in (cube, [2, 0, 0, -1], [-6, 0, 0, 3]):
                self.look(told, one, other, "alike", row, ratio(low), ratio(high))
                self.look(told, other, one, "alike", row, ratio(low), ratio(high))

    def test_alike_with_what_is_no_common_part(self):
        cube = [-2, 0, 0, 1]
        one, other = Number(cube, Ratio(1), Ratio(2)), Number(product(cube, [-5, 1]), Ratio(1), Ratio(2))
        for row in ([], [1], [-1], [5], [0, 1], [-3, 2], [-5, 1], [-2, 0, 1], product(cube, [-5, 1]), product(cube, cube), product(cube, [1, 1]), [-3, 0, 0, 1]):
            self.look(False, one, other, "alike", row, Ratio(1), Ratio(2))
            self.look(False, other, one, "alike", row, Ratio(1), Ratio(2))
        self.look(True, other, other, "alike", product(cube, [-5, 1]), Ratio(1), Ratio(2))
        self.look(False, other, other, "alike", [-5, 1], Ratio(1), Ratio(2))
        self.look(True, one, one, "alike", cube, Ratio(1), Ratio(2))
        # Each is a root of the common part, but not the same one.
        low, high = roots([-2, 0, 1])
        for ends in ((-2, 2), (-2, 0), (0, 2), (-4, 4)):
            self.look(False, low, high, "alike", [-2, 0, 1], *map(Ratio, ends))

    def test_alike_at_the_ends(self):
        other = Number([-1, 2], Ratio(-1), Ratio(1, 2))
        self.look(True, HALF, other, "alike", [-1, 2], Ratio(0), Ratio(1, 2))
        self.look(True, HALF, HALF, "alike", [-1, 2], Ratio(0), Ratio(1))
        self.look(False, HALF, other, "alike", [-1, 2], Ratio(0), Ratio(1))
        self.look(False, HALF, other, "alike", [-1, 2], Ratio(-1), Ratio(1, 2))
        self.look(False, HALF, HALF, "alike", [-1, 2], Ratio(1, 2), Ratio(1))
        self.look(False, HALF, HALF, "alike", [-1, 2], Ratio(1, 2), Ratio(1, 2))

    def test_under_and_over(self):
        ends = [Ratio(0), Ratio(1), Ratio(1), Ratio(2)]
        self.look(True, HALF, SQUARE, "under", *ends)
        self.look(False, HALF, SQUARE, "over", *ends)
        self.look(False, SQUARE, HALF, "under", *ends)
        self.look(False, SQUARE, HALF, "over", *ends)
        turned = ends[2:] + ends[:2]
        self.look(True, SQUARE, HALF, "over", *turned)
        self.look(False, SQUARE, HALF, "under", *turned)
        self.look(False, HALF, SQUARE, "over", *turned)
        self.look(False, HALF, SQUARE, "under", *turned)
        self.look(False, HALF, HALF, "under", Ratio(0), Ratio(1, 2), Ratio(1, 2), Ratio(1))
        self.look(False, HALF, HALF, "over", Ratio(1, 2), Ratio(1), Ratio(0), Ratio(1, 2))

    # Ends may meet, they may not cross.
    def test_ends_that_meet_and_cross(self):
        one, other = Number([-2, 0, 1], Ratio(0), Ratio(2)), Number([-3, 0, 1], Ratio(0), Ratio(3))
        for high, lower, told in (("3/2", "3/2", True), ("3/2", "8/5", True), ("8/5", "8/5", True), ("8/5", "3/2", False), ("3/2", "1499/1000", False), ("2", "17/10", False), ("1501/1000", "3/2", False)):
            spans = [Ratio(1), ratio(Fraction(high)), ratio(Fraction(lower)), Ratio(2)]
            self.look(told, one, other, "under", *spans)
            self.look(told, other, one, "over", *(spans[2:] + spans[:2]))
            self.look(False, other, one, "under", *(spans[2:] + spans[:2]))
            self.look(False, one, other, "over", *spans)

    def test_spans_that_reach_beyond(self):
        for spans, told in (((0, 1, 1, 2), True), ((-1, 1, 1, 2), False), ((0, Fraction(5, 4), Fraction(5, 4), 2), False), ((0, 1, Fraction(1, 1), 3), False), ((0, 1, 1, Fraction(3, 2)), True),
                            ((Fraction(1, 4), 1, Fraction(7, 5), 2), True), ((0, Fraction(3, 4), Fraction(3, 4), 2), False)):
            ends = [ratio(end) for end in spans]
            self.look(told, HALF, SQUARE, "under", *ends)
            self.look(told, SQUARE, HALF, "over", *(ends[2:] + ends[:2]))

    def test_spans_on_which_nothing_changes(self):
        for spans in ((0, Fraction(1, 4), 1, 2), (Fraction(3, 4), 1, 1, 2), (Fraction(1, 2), 1, 1, 2), (0, 1, 1, Fraction(5, 4)), (0, 1, Fraction(3, 2), 2), (0, 0, 1, 2), (1, 0, 1, 2), (0, 1, 2, 2), (0, 1, 2, 1)):
            ends = [ratio(end) for end in spans]
            self.look(False, HALF, SQUARE, "under", *ends)
            self.look(False, SQUARE, HALF, "over", *(ends[2:] + ends[:2]))
        self.look(True, HALF, SQUARE, "under", Ratio(0), Ratio(1, 2), Ratio(1), Ratio(2))

    def test_changed_ones(self):
        source = random.Random(41)
        numbers = [TWO, MIXED, HALF, SQUARE, fraction(Ratio(0)), number([-2, 0, 1], None, Ratio(0)), number([-3, 0, 1], Ratio(0)), number([-5, 4])]
        wrong = 0
        for _ in range(2000):
            a, b = source.choice(numbers), source.choice(numbers)
            paper = list(order_paper(a, b))
            for _ in range(source.choice((1, 1, 2))):
                at = source.randrange(len(paper))
                if at == 0:
                    paper[0] = {"under": "over", "over": "under", "alike": "alike"}[paper[0]]
                elif isinstance(paper[at], list):
                    paper[at] = source.choice([[], [3], [-c for c in paper[at]], product(paper[at], [1, 1]), plain_of(trimmed([c + (c == 0) for c in paper[at]])), a.poly, b.poly])
                else:
                    step = Ratio(source.randrange(-4, 5), source.choice((1, 2, 8, 50)))
                    paper[at] = source.choice([a.low, a.high, b.low, b.high, paper[at].plus(step)])
            said = takes(a, b, tuple(paper))
            self.assertIs(said, right(a, b, paper))
            if said:
                self.assertEqual({"under": -1, "alike": 0, "over": 1}[paper[0]], compare(a, b))
            wrong += not said
        self.assertGreater(wrong, 500)


if __name__ == "__main__":
    unittest.main()
