"""What the tests share: things of every kind, made webs, and slow answers got by going through all."""

import copy
import itertools
import math
import random
from fractions import Fraction

BIG = 10 ** 30


def deep(depth, wrap):
    thing = 0
    for step in range(depth):
        thing = wrap(thing)
    return thing


def odd_things():
    """Things of every kind that may be handed in as whatever, new ones with each call."""
    return [
        None, True, False,
        0, 1, 2, 7, 8, 9, -1, -7, 10 ** 12, 10 ** 12 + 1, 10 ** 30, 10 ** 99, -(10 ** 99), 10 ** 100 - 1,
        "", " ", "0", "1", "-1", "None", "(0, 1)", "web 1 0", "~" * 50,
        [], [0], [0, 1], [None], [[0, 1, 5]], [True], (), (0,), (True,), (None,), ("0",), ([0],), ((0,),),
        ((),), (0, 0), (0, 1, 5), ((0, 1, 5),), (1, ()), (1, []), [1, ()], ({},), (10 ** 99,), (-1,),
        {}, {0: 0}, {0: 1, 1: 0}, {"a": [1, (2, {})]}, {(0, 1): 5}, {None: None}, {True: False},
        deep(50, lambda thing: [thing]), deep(50, lambda thing: (thing,)), deep(50, lambda thing: {0: thing}),
    ]


def is_whole(thing):
    return isinstance(thing, int) and not isinstance(thing, bool)


def no_places(many):
    """Odd things that are no places of a web of so many."""
    return [thing for thing in odd_things() if not (is_whole(thing) and 0 <= thing < many)]


def no_steps(most):
    """Odd things, and the numbers just beyond, that are no whole numbers from 0 to most."""
    return no_whole_within(0, most)


def no_whole_within(least, most):
    """Odd things, and the numbers just beyond, that are no whole numbers from least to most."""
    things = odd_things() + [least - 1, most + 1, -most - 1]
    return [thing for thing in things if not (is_whole(thing) and least <= thing <= most)]


def made_web(source, many, arrows, worth):
    pairs = [(one, other) for one in range(many) for other in range(many)]
    chosen = source.sample(pairs, min(arrows, len(pairs), 24))
    return (many, tuple(sorted((one, other, source.randint(-worth, worth)) for one, other in chosen)))


def made_webs(seed, count, least=1, most=6, worth=4, arrows=24):
    """So many webs by a seed, from sparse to thick ones."""
    source = random.Random(seed)
    return [
        made_web(source, source.randint(least, most), source.randint(0, arrows), worth) for at in range(count)
    ]


def leading_webs(seed, count, least=1, most=8, worth=4, arrows=24):
    """So many webs by a seed with an arrow from each place, from sparse to thick ones."""
    source = random.Random(seed)
    webs = []
    for at in range(count):
        many = source.randint(least, most)
        pairs = {(one, source.randrange(many)) for one in range(many)}
        others = [(one, other) for one in range(many) for other in range(many) if (one, other) not in pairs]
        more = min(source.randint(0, arrows), 24 - many, len(others))
        pairs.update(source.sample(others, more))
        webs.append((many, tuple(sorted((one, other, source.randint(-worth, worth)) for one, other in pairs))))
    return webs


def worth_table(web):
    return {(one, other): worth for one, other, worth in web[1]}


def worth_gone(web, places):
    worths = worth_table(web)
    total = 0
    for at in range(len(places) - 1):
        if places[at:at + 2] not in worths:
            return None
        total += worths[places[at:at + 2]]
    return total


def slow_rings(web):
    """All rings, rising, by all orders of all choices of places."""
    rings = []
    for size in range(1, web[0] + 1):
        for ring in itertools.permutations(range(web[0]), size):
            if ring[0] == min(ring) and worth_gone(web, ring + ring[:1]) is not None:
                rings.append(ring)
    return sorted(rings)


def slow_mean(web, ring):
    return Fraction(worth_gone(web, ring + ring[:1]), len(ring))


def quick_rings(web, begun=None):
    """All rings, rising, place by place: for webs that are too great for slow_rings."""
    if begun is None:
        return [ring for place in range(web[0]) for ring in quick_rings(web, (place,))]
    worths = worth_table(web)
    rings = [begun] if (begun[-1], begun[0]) in worths else []
    for other in range(begun[0] + 1, web[0]):
        if other not in begun and (begun[-1], other) in worths:
            rings.extend(quick_rings(web, begun + (other,)))
    return rings


def as_pair(number):
    return None if number is None else (number.numerator, number.denominator)


def slow_means(web):
    """The least and the greatest mean, both None where there is no ring."""
    means = [slow_mean(web, ring) for ring in slow_rings(web)]
    return (as_pair(min(means, default=None)), as_pair(max(means, default=None)))


def slow_ways(web, k):
    """All ways of k arrows."""
    ways = [(place,) for place in range(web[0])]
    for step in range(k):
        ways = [way + (other,) for way in ways for one, other, worth in web[1] if one == way[-1]]
    return ways


def slow_least(web, one, other, k):
    """The least worth of the ways of k arrows, and the first way that has it."""
    ways = [(worth_gone(web, way), way) for way in slow_ways(web, k) if way[0] == one and way[-1] == other]
    return min(ways, default=(None, None))


def slow_rows(web, place, k):
    """The least worths from a place arrow by arrow, a dict for each number of arrows."""
    rows = [{place: 0}]
    for step in range(k):
        row = {}
        for one, other, worth in web[1]:
            if one in rows[-1]:
                row[other] = min(row.get(other, rows[-1][one] + worth), rows[-1][one] + worth)
        rows.append(row)
    return rows


def changed_worths(web, change):
    return (web[0], tuple((one, other, change(worth)) for one, other, worth in web[1]))


def turned(web):
    return (web[0], tuple(sorted((other, one, worth) for one, other, worth in web[1])))


def circle(many, worths):
    """The web of one ring through all places."""
    return (many, tuple(sorted((at, (at + 1) % many, worths[at]) for at in range(many))))


def is_pair(thing):
    """Whether a thing is a fraction."""
    return (
        isinstance(thing, tuple) and len(thing) == 2 and is_whole(thing[0]) and is_whole(thing[1])
        and thing[1] >= 1 and math.gcd(*thing) == 1
    )


def is_numbers(web, thing):
    return isinstance(thing, tuple) and len(thing) == web[0] and all(is_pair(part) for part in thing)


def slow_comes(web, numbers):
    """What each arrow's worth and its one's number, less its other's, come to."""
    return [worth + Fraction(*numbers[one]) - Fraction(*numbers[other]) for one, other, worth in web[1]]


def little(bound):
    """A bound a little above a fraction, and one a little below it."""
    step = Fraction(1, 10 ** 9 + 7)
    return (as_pair(Fraction(*bound) + step), as_pair(Fraction(*bound) - step))


def made_numbers(source, many, most=20):
    return tuple(as_pair(Fraction(source.randint(-most, most), source.randint(1, 6))) for place in range(many))


def put(things, at, thing):
    """The tuple with another thing at a place."""
    return things[:at] + (thing,) + things[at + 1:]


NO_FRACTIONS = [
    (2, 4), (-2, 2), (0, 2), (0, 0), (1, 0), (1, -1), (-1, -1), (0, -1), (10 ** 99, 10 ** 98), (True, 1), (1, True),
    (False, 1), (0, True), (0, 1, 1), (0,), (), [0, 1], [1, 2], 0, 1, -5, True, False, None, "0", "01", "0/1",
    (None, 1), (1, None), ("1", 1), (1, "1"), ((0, 1), 1), (1, (0, 1)), ([0], 1), (1, {}), {0: 1}, {0: 0, 1: 1},
    ((0, 1), (0, 1)),
]


def bent_numbers(numbers):
    """Things that are no numbers: each place bent, one fewer or more, and other things all over."""
    bent = [put(numbers, at, part) for at in range(len(numbers)) for part in NO_FRACTIONS + odd_things()]
    bent.extend([numbers[:-1], numbers[1:], numbers + ((0, 1),), ((0, 1),) + numbers, list(numbers), (numbers,)])
    bent.extend([put(numbers, at, list(numbers[at])) for at in range(len(numbers))])
    bent.extend([put(numbers, at, numbers[at] + (1,)) for at in range(len(numbers))])
    bent.append({place: number for place, number in enumerate(numbers)})
    return bent + odd_things()


def bent_papers(ring, numbers):
    """Things that are no papers, made of the ring and the numbers of one."""
    bent = [(ring, thing) for thing in bent_numbers(numbers)]
    for thing in odd_things():
        bent.extend([thing, (thing, numbers), (thing, thing), (ring, numbers, thing), (thing, ring, numbers)])
        if not (is_whole(thing) and thing == ring[0]):
            bent.append((put(ring, 0, thing), numbers))
    bent.extend([ring, numbers, (ring,), (numbers,), (numbers, ring), [ring, numbers], {0: ring, 1: numbers}])
    return bent + [(list(ring), numbers), ((ring, numbers),)]


def raised(act):
    """The error that a call raises, None where it raises none."""
    try:
        act()
    except Exception as error:
        return error
    return None


def refusal(ask, *handed):
    """The class of the error that a question raises; looks that nothing handed in was changed."""
    kept = copy.deepcopy(handed)
    error = raised(lambda: ask(*handed))
    assert repr(handed) == repr(kept), handed
    return type(error)
