"""Numbers rounded: whole steps that are not above one, and figures behind a point."""

from rootspan.numbers import against, narrow, sign_of
from rootspan.ratios import Ratio, whole_text
from rootspan.reckon import opposite


# In a span no wider than one step the two ends' steps are the same, or there is one between to be looked at.
def steps(one, bottom):
    near = narrow(one, Ratio(1, bottom))
    most = near.high.times(Ratio(bottom)).floor()
    if against(near, Ratio(most, bottom)) < 0:
        return most - 1
    return most


def figures(one, places=6):
    below = sign_of(one) < 0
    many = nearest(opposite(one) if below else one, ten_to(places))
    digits = whole_text(many).zfill(places + 1)
    sign = "-" if below and many > 0 else ""
    if places == 0:
        return sign + digits
    return sign + digits[:-places] + "." + digits[-places:]


# Of a Number from 0 on: the half that lies just between goes up, away from 0.
def nearest(one, scale):
    return (steps(one, 2 * scale) + 1) // 2


def ten_to(places):
    found = 1
    for step in range(places):
        found = 10 * found
    return found
