"""Texts cut into marks, and which marks are names and whole numbers."""

WORDS = ("x", "sqrt", "cbrt", "root")
LONGEST = 8
FIGURES = "0123456789"
LETTERS = "abcdefghijklmnopqrstuvwxyz"


# Each with the place where it begins. A sign that no mark has comes out as a mark too, one that nothing asks for.
def marks_of(text):
    found = []
    at = 0
    while at < len(text):
        end = mark_end(text, at)
        if text[at] != " ":
            found.append((text[at:end], at))
        at = end
    return found


def mark_end(text, at):
    for signs in (FIGURES, LETTERS):
        if text[at] in signs:
            return run_end(text, at, signs)
    if text[at:at + 2] == "..":
        return at + 2
    return at + 1


def run_end(text, at, signs):
    end = at
    while end < len(text) and text[end] in signs:
        end = end + 1
    return end


def is_name(word):
    return made_of(word, LETTERS) and len(word) <= LONGEST and word not in WORDS


def is_whole(word):
    return made_of(word, FIGURES) and (word == "0" or word[0] != "0")


def made_of(word, signs):
    return word != "" and all([sign in signs for sign in word])
