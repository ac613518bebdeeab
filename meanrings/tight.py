"""Tight arrows, and the core of all rings of the least mean."""

from meanrings.basics import greatest_divisor
from meanrings.errors import NoNumber, NoRing
from meanrings.means import least_by_places, least_mean
from meanrings.shows import comes_to, shows_for, shows_good
from meanrings.ways import rows_led, still_row
from meanrings.webs import groups_of


def checked_mean(web):
    """The least mean; refuses a web without a ring."""
    mean = least_mean(web)
    if mean is None:
        raise NoRing()
    return mean


def tight_arrows(web, numbers):
    """The arrows that come to just the least mean by numbers that show it, rising."""
    mean = checked_mean(web)
    if not shows_good(web, mean, numbers):
        raise NoNumber()
    return [arrow for arrow, come in zip(web[1], comes_to(web, numbers)) if come == mean]


def within_one(groups, arrow):
    """Whether both places of an arrow lie in one of the groups."""
    return any(arrow[0] in group and arrow[1] in group for group in groups)


def core_arrows(web):
    """All arrows of the rings of the least mean, rising."""
    tight = tight_arrows(web, shows_for(web, checked_mean(web)))
    # The rings of the least mean are those of tight arrows, and an arrow lies on one where its end leads back.
    groups = groups_of((web[0], tuple(tight)))
    return tuple([arrow for arrow in tight if within_one(groups, arrow)])


def core_places(web):
    """All places on the rings of the least mean, rising."""
    return tuple(sorted({one for one, other, worth in core_arrows(web)}))


def steps_from(web, place):
    """The least number of arrows of a way from a place, by the places where it ends."""
    counted = (web[0], tuple([(one, other, 1) for one, other, worth in web[1]]))
    return least_by_places(rows_led(counted, still_row(web[0], place), web[0] - 1))


def common_size(core, group):
    """The greatest whole number that divides the sizes of all rings of a group."""
    steps = steps_from(core, group[0])
    size = 0
    # Along a ring the steps fall out, so what divides this of each arrow divides each ring's size; it is never
    # below 0, as the steps are the least ones.
    for one, other, worth in core[1]:
        if one in group:
            size = greatest_divisor(size, steps[one] + 1 - steps[other])
    return size


def core_groups(web):
    """The groups of the core, by their least places, each with what divides the sizes of its rings."""
    core = (web[0], core_arrows(web))
    places = core_places(web)
    return [(group, common_size(core, group)) for group in groups_of(core) if group[0] in places]
