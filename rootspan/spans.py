"""Spans reckoned with: between which two fractions a sum, a product or a power must lie, the ends among them."""


def span_sum(first, second):
    return (first[0].plus(second[0]), first[1].plus(second[1]))


def span_product(first, second):
    least = first[0].times(second[0])
    greatest = least
    for found in (first[0].times(second[1]), first[1].times(second[0]), first[1].times(second[1])):
        if found.against(least) < 0:
            least = found
        if found.against(greatest) > 0:
            greatest = found
    return (least, greatest)


def span_power(span, k):
    found = span
    for step in range(k - 1):
        found = span_product(found, span)
    return found
