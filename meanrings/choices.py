"""Choices of an arrow at each place, and the best means to which one comes by them."""

from meanrings.basics import fraction_less
from meanrings.errors import NoArrow, NoRing, TooGreat
from meanrings.means import least_mean, ring_met
from meanrings.shows import arrow_comes_to, numbers_good, shows_for
from meanrings.tight import core_arrows
from meanrings.webs import arrows_from, places_good, places_reached, ring_mean, turned_web, worths_by_places

MOST_CHOICES = 500


def check_leads(web):
    """Refuses a web with a place from which no arrow leads."""
    if not all(arrows_from(web, place) for place in range(web[0])):
        raise NoArrow()


def choice_good(web, thing):
    """Whether a thing is a choice, for each place one to which it leads."""
    check_leads(web)
    if not places_good(web, thing) or len(thing) != web[0]:
        return False
    worths = worths_by_places(web)
    return all((place, other) in worths for place, other in enumerate(thing))


def choice_rings(web, choice):
    """The rings into which one comes by a choice, by places."""
    if not choice_good(web, choice):
        raise NoRing()
    return [ring_met(choice, place) for place in range(web[0])]


def choice_means(web, choice):
    """The means of the rings into which one comes by a choice, by places."""
    return [ring_mean(web, ring) for ring in choice_rings(web, choice)]


def part_from(web, place):
    """The web of the arrows to which one comes from a place."""
    reached = places_reached(web, place)
    return (web[0], tuple([arrow for arrow in web[1] if arrow[0] in reached]))


def best_means(web):
    """The least means of the rings to which one comes by arrows, by places."""
    check_leads(web)
    return [least_mean(part_from(web, place)) for place in range(web[0])]


def level_of(web, means, place):
    """The web of the arrows from all places of the same best mean as a place."""
    # Best means never fall along a way, so all ways from there to rings of this mean are left, and no lesser ring is.
    return (web[0], tuple([arrow for arrow in web[1] if means[arrow[0]] == means[place]]))


def chosen_towards_core(web):
    """For each place from which one comes to the core, a place that lies on the core or is nearer to it."""
    # Each ring along the core's arrows has the least mean, whichever of them are chosen.
    chosen = {one: other for one, other, worth in core_arrows(web)}
    for step in range(web[0]):
        for one, other, worth in web[1]:
            if one not in chosen and other in chosen:
                chosen[one] = other
    return chosen


def best_choice(web):
    """Some choice whose means are the best ones at all places."""
    means = best_means(web)
    return tuple([chosen_towards_core(level_of(web, means, place))[place] for place in range(web[0])])


def values_hold(arrow, means, numbers):
    """Whether means and numbers show by an arrow that no choice is better."""
    one, other, worth = arrow
    if means[one] != means[other]:
        return fraction_less(means[one], means[other])
    return not fraction_less(arrow_comes_to((other, one, worth), numbers), means[one])


def values_good(web, thing):
    """Whether a thing is values that show that no choice is better."""
    check_leads(web)
    if not isinstance(thing, tuple) or len(thing) != 2:
        return False
    means, numbers = thing
    if not numbers_good(web, means) or not numbers_good(web, numbers):
        return False
    return all(values_hold(arrow, means, numbers) for arrow in web[1])


def values_of(web):
    """Some values whose means are the best ones."""
    means = best_means(web)
    # Values take an arrow's numbers the other way about than numbers that show a bound.
    numbers = [
        shows_for(turned_web(level_of(web, means, place)), means[place])[place] for place in range(web[0])
    ]
    return (tuple(means), tuple(numbers))


def choices_many(web):
    """How many choices there are."""
    check_leads(web)
    many = 1
    for place in range(web[0]):
        many *= len(arrows_from(web, place))
    return many


def choices_of(web):
    """All choices."""
    choices = [()]
    for place in range(web[0]):
        choices = [choice + (other,) for choice in choices for one, other, worth in arrows_from(web, place)]
    return choices


def best_many(web):
    """How many choices have the best means at all places, of few choices."""
    many = choices_many(web)
    if many > MOST_CHOICES:
        raise TooGreat(many, MOST_CHOICES)
    means = best_means(web)
    return len([choice for choice in choices_of(web) if choice_means(web, choice) == means])
