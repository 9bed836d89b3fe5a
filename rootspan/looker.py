"""The looker: whether a paper shows what it says. It trusts nothing that it has not reckoned over."""

from rootspan.factors import divides
from rootspan.polys import degree, multiplied, shrunk, sign_at, slope, taken
from rootspan.sturm import count


def just_one(polynomial, low, high, paper):
    return (holds_together(polynomial, paper[0], paper[1]) and low.against(high) < 0
            and count(paper[0], low, high) == 1)


def holds_together(polynomial, row, links):
    if len(row) < 2 or len(links) != len(row) - 2:
        return False
    if row[0] != polynomial or row[1] != shrunk(slope(polynomial)) or degree(row[-1]) != 0:
        return False
    return all([link_holds(row, k, link) for k, link in enumerate(links)])


def link_holds(row, k, link):
    if link[0] <= 0 or link[2] <= 0:
        return False
    return multiplied([link[0]], row[k]) == taken(multiplied(link[1], row[k + 1]), multiplied([link[2]], row[k + 2]))


def takes(first, second, paper):
    if paper[0] == "alike":
        return shows_alike(first, second, paper)
    if not (shows_in(first, paper[1], paper[2]) and shows_in(second, paper[3], paper[4])):
        return False
    if paper[0] == "under":
        return paper[2].against(paper[3]) <= 0
    return paper[0] == "over" and paper[4].against(paper[1]) <= 0


def shows_alike(first, second, paper):
    shared_part = paper[1]
    if degree(shared_part) < 1 or not changes_on(shared_part, paper[2], paper[3]):
        return False
    return all([divides(shared_part, one.poly) and lies_in(one, paper[2], paper[3]) for one in (first, second)])


def shows_in(one, low, high):
    return lies_in(one, low, high) and changes_on(one.poly, low, high)


def lies_in(one, low, high):
    return low.against(one.low) >= 0 and high.against(one.high) <= 0


def changes_on(polynomial, low, high):
    start = sign_at(polynomial, low)
    return low.against(high) < 0 and start != 0 and sign_at(polynomial, high) != start
