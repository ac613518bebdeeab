"""The least mean of all rings of a web, and rings that have it."""

from meanrings.basics import fraction_less, fraction_of, least_fraction
from meanrings.webs import groups_of, ring_mean, rings_of
from meanrings.ways import rows_led


def mean_rows(web):
    """The least worths of ways of k arrows, wherever they begin, for each k up to how many places there are."""
    return rows_led(web, [0] * web[0], web[0])


def steepest_mean(rows, place):
    """The greatest mean by which the place's numbers come to its last one."""
    many = len(rows) - 1
    greatest = None
    for k in range(many):
        if rows[k][place] is not None:
            mean = fraction_of(rows[many][place] - rows[k][place], many - k)
            if greatest is None or fraction_less(greatest, mean):
                greatest = mean
    return greatest


def least_mean(web):
    """The least mean of all rings, None where there is none."""
    rows = mean_rows(web)
    return least_fraction([steepest_mean(rows, place) for place in range(web[0]) if rows[web[0]][place] is not None])


def greatest_mean(web):
    """The greatest mean of all rings, None where there is none."""
    mean = least_mean((web[0], tuple([(one, other, -worth) for one, other, worth in web[1]])))
    return None if mean is None else (-mean[0], mean[1])


def costs_over(web, mean):
    """The web with each worth taken by the mean's bottom, less its top: so a ring's sign shows how its mean lies."""
    top, bottom = mean
    return (web[0], tuple([(one, other, worth * bottom - top) for one, other, worth in web[1]]))


def least_by_places(rows):
    """The least number that each place has in some row, None where it has none."""
    return [min([number for number in column if number is not None], default=None) for column in zip(*rows)]


def tight_part(costs):
    """The web of the arrows that lie on ways of the least worth, where no ring has one below 0."""
    least = least_by_places(mean_rows(costs))
    return (costs[0], tuple([
        (one, other, worth) for one, other, worth in costs[1] if least[one] + worth == least[other]
    ]))


def ring_met(onward, place):
    """The ring into which one comes from a place, led on and on."""
    gone = []
    while place not in gone:
        gone.append(place)
        place = onward[place]
    ring = gone[gone.index(place):]
    at = ring.index(min(ring))
    return tuple(ring[at:] + ring[:at])


def some_ring(web):
    """Some ring of the web, None where there is none."""
    for group in groups_of(web):
        # Where a group has an arrow within it, each of its places has one.
        onward = {one: other for one, other, worth in web[1] if one in group and other in group}
        if onward:
            return ring_met(onward, group[0])
    return None


def least_ring(web):
    """Some ring of the least mean, None where there is no ring."""
    mean = least_mean(web)
    if mean is None:
        return None
    # Over the least mean no ring falls below 0, and those that come to 0 are the rings of tight arrows.
    return some_ring(tight_part(costs_over(web, mean)))


def first_least(web):
    """The first ring of the least mean, None where there is no ring."""
    rings = rings_of(web)
    mean = least_mean(web)
    for ring in rings:
        if ring_mean(web, ring) == mean:
            return ring
    return None


def no_less(web, bound):
    """Whether no ring has a mean less than the bound."""
    mean = least_mean(web)
    return mean is None or not fraction_less(mean, bound)
