"""Whole numbers and fractions, as all modules of the package take them."""


def is_whole(thing):
    """Whether a thing is a whole number."""
    # A truth is an int to Python, but no whole number here.
    return isinstance(thing, int) and not isinstance(thing, bool)


def is_whole_within(thing, least, most):
    """Whether a thing is a whole number from least to most."""
    return is_whole(thing) and least <= thing <= most


def greatest_divisor(one, other):
    """The greatest whole number that divides both, of numbers from 0 on."""
    while other:
        one, other = other, one % other
    return one


def fraction_of(top, bottom):
    """The fraction that top divided by bottom is, the bottom from 1 on."""
    common = greatest_divisor(abs(top), bottom)
    return (top // common, bottom // common)


def fraction_less(one, other):
    """Whether one fraction is less than the other one."""
    return one[0] * other[1] < other[0] * one[1]


def fraction_sum(one, other):
    """What two fractions come to."""
    return fraction_of(one[0] * other[1] + other[0] * one[1], one[1] * other[1])


def is_fraction(thing):
    """Whether a thing is a fraction."""
    if not isinstance(thing, tuple) or len(thing) != 2:
        return False
    top, bottom = thing
    if not is_whole(top) or not is_whole(bottom) or bottom < 1:
        return False
    return greatest_divisor(abs(top), bottom) == 1


def least_fraction(fractions):
    """The least fraction of a list, None where it has none."""
    least = None
    for fraction in fractions:
        if least is None or fraction_less(fraction, least):
            least = fraction
    return least


def none_below(fractions, bound):
    """Whether no fraction of a list is less than the bound."""
    return not any([fraction_less(fraction, bound) for fraction in fractions])
