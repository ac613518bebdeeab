"""Numbers on places that show that no ring has a mean less than a bound."""

from meanrings.basics import fraction_of, is_fraction, least_fraction, none_below
from meanrings.errors import NoNumber
from meanrings.means import costs_over, least_by_places, least_ring, mean_rows, no_less
from meanrings.ways import rows_led, still_row
from meanrings.webs import check_place, ring_good, ring_mean

NOUGHT = (0, 1)


def numbers_good(web, thing):
    """Whether a thing is numbers of the web."""
    return isinstance(thing, tuple) and len(thing) == web[0] and all(is_fraction(part) for part in thing)


def check_numbers(web, thing):
    """Refuses what is no numbers of the web."""
    if not numbers_good(web, thing):
        raise NoNumber()


def arrow_comes_to(arrow, numbers):
    """What an arrow's worth and its one's number, less its other's, come to."""
    one, other, worth = arrow
    more, more_bottom = numbers[one]
    less, less_bottom = numbers[other]
    bottom = more_bottom * less_bottom
    return fraction_of(worth * bottom + more * less_bottom - less * more_bottom, bottom)


def comes_to(web, numbers):
    """What each arrow comes to by numbers of the web, in order."""
    return [arrow_comes_to(arrow, numbers) for arrow in web[1]]


def shows_good(web, bound, thing):
    """Whether a thing is numbers of the web that show the bound."""
    return numbers_good(web, thing) and none_below(comes_to(web, thing), bound)


def numbers_over(costs, bottom):
    """Numbers by which no arrow of the costs falls below 0, all divided by a bottom; None where some ring does."""
    if not no_less(costs, NOUGHT):
        return None
    # The least that ways come to at an arrow's end is never more than at its beginning with the arrow put to it.
    return tuple([fraction_of(number, bottom) for number in least_by_places(mean_rows(costs))])


def shows_for(web, bound):
    """Some numbers of the web that show the bound, None where some ring has a mean less than it."""
    return numbers_over(costs_over(web, bound), bound[1])


def ring_under(web, bound):
    """Some ring of a mean less than the bound, None where there is none."""
    return None if no_less(web, bound) else least_ring(web)


def bound_of(web, numbers):
    """The greatest bound that numbers of the web show, None where there is no arrow."""
    check_numbers(web, numbers)
    return least_fraction(comes_to(web, numbers))


def paper_formed(web, thing):
    """Whether a thing is a tuple of a ring of the web and one thing more."""
    return isinstance(thing, tuple) and len(thing) == 2 and ring_good(web, thing[0])


def mean_paper_good(web, thing):
    """Whether a thing is a ring of the web and numbers that show its mean."""
    return paper_formed(web, thing) and shows_good(web, ring_mean(web, thing[0]), thing[1])


def mean_paper(web):
    """Some ring and numbers that show that none has a lesser mean, None where there is no ring."""
    ring = least_ring(web)
    if ring is None:
        return None
    return (ring, shows_for(web, ring_mean(web, ring)))


def far_numbers(web, bound, place):
    """The least that ways from a place come to over the bound, by the places where they end."""
    check_place(web, place)
    if not no_less(web, bound):
        raise NoNumber()
    # A way that comes to a place again is no less than without that ring, so few arrows are enough.
    rows = rows_led(costs_over(web, bound), still_row(web[0], place), web[0] - 1)
    return [None if number is None else fraction_of(number, bound[1]) for number in least_by_places(rows)]
