"""Webs of places and arrows, and the rings in them."""

from meanrings.basics import fraction_of, is_whole_within
from meanrings.errors import NoPlace, NoRing, NoWeb, TooGreat

MOST_PLACES = 8
MOST_ARROWS = 24
MOST_WORTH = 10 ** 30
MOST_PLACES_LISTED = 6


def many_good(thing):
    """Whether a web may have so many places."""
    return is_whole_within(thing, 1, MOST_PLACES)


def worth_good(thing):
    """Whether an arrow may have such a worth."""
    return is_whole_within(thing, -MOST_WORTH, MOST_WORTH)


def arrow_good(many, thing):
    """Whether a thing is an arrow between some of so many places."""
    if not isinstance(thing, tuple) or len(thing) != 3:
        return False
    one, other, worth = thing
    if not is_whole_within(one, 0, many - 1) or not is_whole_within(other, 0, many - 1):
        return False
    return worth_good(worth)


def web_good(thing):
    """Whether a thing is a web."""
    if not isinstance(thing, tuple) or len(thing) != 2:
        return False
    many, arrows = thing
    if not many_good(many) or not isinstance(arrows, tuple) or len(arrows) > MOST_ARROWS:
        return False
    if not all(arrow_good(many, arrow) for arrow in arrows):
        return False
    # Places that rise by themselves leave no two arrows with both places alike.
    return all(ahead[:2] < arrow[:2] for ahead, arrow in zip(arrows, arrows[1:]))


def web_of(many, things):
    """The web of so many places and of a list of arrows in any order."""
    if not many_good(many):
        raise NoWeb(-1)
    seen = set()
    for at, thing in enumerate(things):
        if at >= MOST_ARROWS or not arrow_good(many, thing) or thing[:2] in seen:
            raise NoWeb(at)
        seen.add(thing[:2])
    return (many, tuple(sorted(things)))


def is_place(web, thing):
    """Whether a thing is a place of the web."""
    return is_whole_within(thing, 0, web[0] - 1)


def check_place(web, thing):
    """Refuses what is no place of the web."""
    if not is_place(web, thing):
        raise NoPlace()


def arrows_from(web, place):
    """The arrows that lead from a place, rising."""
    check_place(web, place)
    return [arrow for arrow in web[1] if arrow[0] == place]


def arrows_to(web, place):
    """The arrows that lead to a place, rising."""
    check_place(web, place)
    return [arrow for arrow in web[1] if arrow[1] == place]


def worths_by_places(web):
    """The worth of each arrow, by the pair of its places."""
    return {(one, other): worth for one, other, worth in web[1]}


def worth_of(web, one, other):
    """The worth of the arrow from one place to the other, None where there is none."""
    check_place(web, one)
    check_place(web, other)
    return worths_by_places(web).get((one, other))


def turned_web(web):
    """The web in which each arrow leads the other way."""
    return (web[0], tuple(sorted([(other, one, worth) for one, other, worth in web[1]])))


def places_reached(web, place):
    """All places to which one comes from a place by arrows, and the place itself."""
    reached = [place]
    at = 0
    while at < len(reached):
        here = reached[at]
        reached.extend([other for one, other, worth in web[1] if one == here and other not in reached])
        at += 1
    return reached


def groups_of(web):
    """The groups of places that lead to each other, by their least places."""
    many = web[0]
    reached = [places_reached(web, place) for place in range(many)]
    groups = []
    for place in range(many):
        group = tuple([other for other in range(many) if other in reached[place] and place in reached[other]])
        if group[0] == place:
            groups.append(group)
    return groups


def places_good(web, thing):
    """Whether a thing is a tuple of one or more places of the web."""
    return isinstance(thing, tuple) and len(thing) > 0 and all(is_place(web, part) for part in thing)


def worth_along(web, places):
    """What the arrows from each of the places to the next one come to, None where one is missing."""
    worths = worths_by_places(web)
    steps = [worths.get(step) for step in zip(places, places[1:])]
    return None if None in steps else sum(steps)


def ring_good(web, thing):
    """Whether a thing is a ring of the web."""
    if not places_good(web, thing):
        return False
    if thing[0] != min(thing) or len(set(thing)) != len(thing):
        return False
    return worth_along(web, thing + thing[:1]) is not None


def ring_worth(web, ring):
    """What the worths of a ring's arrows come to."""
    if not ring_good(web, ring):
        raise NoRing()
    return worth_along(web, ring + ring[:1])


def ring_mean(web, ring):
    """The worth of a ring divided by how many places it has."""
    return fraction_of(ring_worth(web, ring), len(ring))


def rings_of(web):
    """All rings of a web of few places, rising."""
    many = web[0]
    if many > MOST_PLACES_LISTED:
        raise TooGreat(many, MOST_PLACES_LISTED)
    rings = []
    for place in range(many):
        rings.extend(rings_begun(web, (place,)))
    return rings


def rings_begun(web, places):
    """All rings that begin with these places, each of which leads to the next one, rising."""
    first, last = places[0], places[-1]
    rings = [places] if worth_of(web, last, first) is not None else []
    # The arrows rise, so the rings that go on along them rise too.
    for one, other, worth in web[1]:
        if one == last and other > first and other not in places:
            rings.extend(rings_begun(web, places + (other,)))
    return rings
