"""Webs in which arrows are changed, and what the least mean makes of it."""

from meanrings.basics import fraction_less, fraction_sum, is_whole_within
from meanrings.errors import NoArrow, NoNumber, TooGreat
from meanrings.means import least_mean
from meanrings.shows import NOUGHT, far_numbers
from meanrings.webs import MOST_ARROWS, MOST_WORTH, check_place, worth_good, worth_of

MOST_TIMES = 10 ** 6
MOST_MORE = 10 ** 12


def arrows_beside(web, one, other):
    """All arrows but the one from one place to the other."""
    return [arrow for arrow in web[1] if arrow[:2] != (one, other)]


def with_arrow(web, one, other, worth):
    """The web with an arrow of some worth, in the stead of one that is there."""
    check_place(web, one)
    check_place(web, other)
    if not worth_good(worth):
        raise NoNumber()
    arrows = arrows_beside(web, one, other)
    if len(arrows) == MOST_ARROWS:
        raise TooGreat(MOST_ARROWS + 1, MOST_ARROWS)
    return (web[0], tuple(sorted(arrows + [(one, other, worth)])))


def check_arrow(web, one, other):
    """Refuses places between which no arrow leads."""
    if worth_of(web, one, other) is None:
        raise NoArrow()


def without_arrow(web, one, other):
    """The web without the arrow from one place to the other."""
    check_arrow(web, one, other)
    return (web[0], tuple(arrows_beside(web, one, other)))


def least_over(web, one, other, mean):
    """The least that rings along an arrow come to over a mean, None where it lies on no ring.

    No ring without the arrow may have a mean less than this one.
    """
    back = far_numbers(without_arrow(web, one, other), mean, other)[one]
    if back is None:
        return None
    top, bottom = mean
    return fraction_sum((worth_of(web, one, other) * bottom - top, bottom), back)


def may_fall(web, one, other):
    """By how much an arrow's worth may be less such that the least mean stays, None where it lies on no ring."""
    check_arrow(web, one, other)
    mean = least_mean(web)
    return None if mean is None else least_over(web, one, other, mean)


def mean_without(web, one, other):
    """The least mean of the web without an arrow, None where that has no ring."""
    return least_mean(without_arrow(web, one, other))


def rise_till(web, one, other):
    """From what rise of an arrow's worth on the least mean is that without it, None where that is None."""
    mean = mean_without(web, one, other)
    if mean is None:
        return None
    over = least_over(web, one, other, mean)
    if over is None or not fraction_less(over, NOUGHT):
        return NOUGHT
    return (-over[0], over[1])


def checked_web(many, arrows):
    """The web of arrows in order; refuses one of too great a worth."""
    greatest = max([abs(worth) for one, other, worth in arrows], default=0)
    if greatest > MOST_WORTH:
        raise TooGreat(greatest, MOST_WORTH)
    return (many, tuple(arrows))


def more_good(thing):
    """Whether a worth may be changed by such a number."""
    return is_whole_within(thing, -MOST_MORE, MOST_MORE)


def scaled_web(web, by, more):
    """The web with each worth taken by a number, and greater by another one."""
    if not is_whole_within(by, 1, MOST_TIMES) or not more_good(more):
        raise NoNumber()
    return checked_web(web[0], [(one, other, worth * by + more) for one, other, worth in web[1]])


def shifted_web(web, numbers):
    """The web with each arrow's worth more by its one's number and less by its other's."""
    if not isinstance(numbers, tuple) or len(numbers) != web[0] or not all(more_good(number) for number in numbers):
        raise NoNumber()
    return checked_web(web[0], [
        (one, other, worth + numbers[one] - numbers[other]) for one, other, worth in web[1]
    ])
