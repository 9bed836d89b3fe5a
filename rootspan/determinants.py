"""The determinant of whole numbers, reckoned without fractions."""


# Each step takes one row and the first column away; each number that is left is then a determinant of the
# rows handed in, times the last row's first number, so that the division by the one before comes out whole.
def determinant(rows):
    left = [list(row) for row in rows]
    before = 1
    sign = 1
    while len(left) > 0:
        place = first_not_nought(left)
        if place == len(left):
            return 0
        if place % 2 == 1:
            sign = -sign
        head = left[place]
        left = [cleared(row, head, before) for row in left[:place] + left[place + 1:]]
        before = head[0]
    return sign * before


def first_not_nought(rows):
    place = 0
    while place < len(rows) and rows[place][0] == 0:
        place = place + 1
    return place


def cleared(row, head, before):
    return [(head[0] * row[k] - row[0] * head[k]) // before for k in range(1, len(row))]
