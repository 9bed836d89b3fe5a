"""The desk: Numbers kept by names, and rows that ask for them."""

from rootspan.errors import NoName, NoRow
from rootspan.figures import figures
from rootspan.marks import is_name, is_whole
from rootspan.numbers import compare, place_in, sign_of
from rootspan.parts import poly_text
from rootspan.quotients import quotients
from rootspan.ratios import whole_text
from rootspan.reader import read

ROWS = (
    ("let", "new", "text"),
    ("drop", "kept"),
    ("show", "kept"),
    ("show", "kept", "places"),
    ("poly", "kept"),
    ("sign", "kept"),
    ("compare", "kept", "kept"),
    ("parts", "kept", "many"),
    ("order",),
)
# For 0, 1 and -1, which is the last place.
SIGNS = ("nought", "above", "below")
ORDERS = ("=", ">", "<")


class Desk:
    def __init__(self):
        self.kept = {}

    def say(self, row):
        words = words_of(row)
        refuse_names(self.kept, words, form_of(words))
        if words[0] == "let":
            self.kept[words[1]] = read(words[2]).worth(self.kept)
            return "ok"
        if words[0] == "drop":
            self.kept.pop(words[1])
            return "ok"
        return answer(self.kept, words)


def words_of(row):
    words = row.split(" ")
    if words[0] == "let":
        return row.split(" ", 2)
    return words


def form_of(words):
    for form in ROWS:
        if fits(words, form):
            return form
    raise NoRow()


def fits(words, form):
    if len(words) != len(form) or words[0] != form[0]:
        return False
    return all([word_fits(words[k], form[k]) for k in range(1, len(form))])


def word_fits(word, slot):
    if slot == "places":
        return is_within(word, 0, 40)
    if slot == "many":
        return is_within(word, 1, 30)
    return True


def is_within(word, least, most):
    return is_whole(word) and len(word) <= 2 and least <= int(word) and int(word) <= most


# What is no name is never kept, so it is refused as a name that isn't.
def refuse_names(kept, words, form):
    for word, slot in zip(words, form):
        if (slot == "kept" and word not in kept) or (slot == "new" and not is_name(word)):
            raise NoName(word)


def answer(kept, words):
    if words[0] == "order":
        return order_text(kept)
    one = kept[words[1]]
    if words[0] == "poly":
        return poly_text(one.poly)
    if words[0] == "sign":
        return SIGNS[sign_of(one)]
    if words[0] == "compare":
        return ORDERS[compare(one, kept[words[2]])]
    if words[0] == "parts":
        return " ".join([whole_text(part) for part in quotients(one, int(words[2]))])
    if len(words) == 2:
        return figures(one)
    return figures(one, int(words[2]))


# Each name is laid behind all that are not greater; they come by their letters, so alike ones stay so.
def order_text(kept):
    names = []
    numbers = []
    for name in sorted(kept):
        place = place_in(numbers, kept[name])
        names.insert(place, name)
        numbers.insert(place, kept[name])
    found = ""
    for k, name in enumerate(names):
        if k > 0:
            found = found + (" = " if compare(numbers[k - 1], numbers[k]) == 0 else " < ")
        found = found + name
    return found
