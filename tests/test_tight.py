"""5.1 to 5.4: tight arrows and the core."""

import copy
import math
import random
import unittest
from fractions import Fraction

from material import (
    BIG, as_pair, bent_numbers, circle, made_numbers, made_webs, odd_things, put, quick_rings, raised, slow_comes,
    slow_mean,
)
from meanrings.errors import NoNumber, NoRing
from meanrings.means import least_mean
from meanrings.shows import far_numbers, mean_paper, shows_for
from meanrings.tight import core_arrows, core_groups, core_places, tight_arrows

WEB = (3, ((0, 1, 5), (1, 2, -3), (2, 0, 1), (2, 1, 2), (2, 2, 7)))
NUMBERS = ((0, 1), (5, 2), (0, 1))
NO_RINGS = [(1, ()), (8, ()), (2, ((0, 1, -5),)), (4, ((0, 1, 1), (0, 2, -3), (1, 3, 1), (2, 3, 9)))]
# Of the mean 1: (0, 1) and (1, 2, 3), which share a place, (4,), and (5, 6, 7); (1, 2) is worse.
SHARED = (8, (
    (0, 1, 3), (0, 4, 9), (1, 0, -1), (1, 2, 1), (2, 1, 5), (2, 3, 1), (3, 1, 1), (4, 4, 1), (5, 6, 4), (6, 7, -5),
    (7, 5, 4),
))
# All of the mean 0: (0, 1, 2, 3) and (0, 3, 1, 2) go along all arrows, and the other rings are made of their pieces.
PIECES = (4, ((0, 1, 0), (0, 3, 0), (1, 2, 0), (2, 0, 0), (2, 3, 0), (3, 0, 0), (3, 1, 0)))


def arrows_on(web, ring):
    steps = set(zip(ring, ring[1:] + ring[:1]))
    return {arrow for arrow in web[1] if arrow[:2] in steps}


def slow_core(web):
    """The rings of the least mean, by all rings."""
    rings = quick_rings(web)
    least = min(slow_mean(web, ring) for ring in rings)
    return [ring for ring in rings if slow_mean(web, ring) == least]


def slow_core_arrows(web):
    return tuple(sorted(set().union(*(arrows_on(web, ring) for ring in slow_core(web)))))


def slow_core_groups(web):
    """Places of the core are joined by rings that share some; sizes by all rings along the core's arrows."""
    rings = quick_rings((web[0], slow_core_arrows(web)))
    groups = []
    for ring in rings:
        met = [group for group in groups if group & set(ring)]
        groups = [group for group in groups if group not in met] + [set(ring).union(*met)]
    return sorted(
        (tuple(sorted(group)), math.gcd(*(len(ring) for ring in rings if set(ring) <= group))) for group in groups
    )


def webs_with_rings(seed, count, most=8):
    # Worths of few kinds give many rings of one mean.
    webs = (
        made_webs(seed, count, most=most, worth=0) + made_webs(seed + 1, count, most=most, worth=1)
        + made_webs(seed + 2, count, most=most, worth=1, arrows=12) + made_webs(seed + 3, count, most=most, worth=BIG)
    )
    return [web for web in webs if quick_rings(web)]


class TightArrows(unittest.TestCase):
    def test_ordinary(self):
        self.assertEqual(tight_arrows(WEB, NUMBERS), [(1, 2, -3), (2, 1, 2)])
        # An arrow that leads into a ring of the least mean may be tight, too.
        self.assertEqual(tight_arrows(WEB, put(NUMBERS, 0, (-3, 1))), [(0, 1, 5), (1, 2, -3), (2, 1, 2)])
        self.assertEqual(tight_arrows((1, ((0, 0, 5),)), ((-7, 3),)), [(0, 0, 5)])

    def test_made_webs(self):
        for web in webs_with_rings(301, 25):
            mean = least_mean(web)
            far = far_numbers(web, mean, 0)
            for numbers in [shows_for(web, mean), mean_paper(web)[1]] + ([tuple(far)] if None not in far else []):
                comes = slow_comes(web, numbers)
                told = tight_arrows(web, numbers)
                self.assertEqual(type(told), list)
                self.assertEqual(told, [web[1][at] for at in range(len(comes)) if as_pair(comes[at]) == mean])

    def test_no_numbers(self):
        for thing in bent_numbers(NUMBERS):
            kept = copy.deepcopy(thing)
            self.assertIs(type(raised(lambda: tight_arrows(WEB, thing))), NoNumber, thing)
            self.assertEqual(repr(thing), repr(kept))

    def test_numbers_that_show_less(self):
        for numbers in (((0, 1),) * 3, put(NUMBERS, 1, (2, 1)), put(NUMBERS, 1, (3, 1)), put(NUMBERS, 0, (-31, 10))):
            self.assertIs(type(raised(lambda: tight_arrows(WEB, numbers))), NoNumber, numbers)
        source = random.Random(305)
        for web in webs_with_rings(306, 15):
            numbers = made_numbers(source, web[0])
            less = as_pair(min(slow_comes(web, numbers))) != least_mean(web)
            self.assertIs(type(raised(lambda: tight_arrows(web, numbers))), NoNumber if less else type(None))

    def test_no_ring_goes_ahead(self):
        for web in NO_RINGS:
            for thing in bent_numbers(((0, 1),) * web[0]) + [((0, 1),) * web[0], shows_for(web, (0, 1))]:
                self.assertIs(type(raised(lambda: tight_arrows(web, thing))), NoRing, thing)


class Core(unittest.TestCase):
    def test_ordinary(self):
        self.assertEqual(core_arrows(WEB), ((1, 2, -3), (2, 1, 2)))
        self.assertEqual(core_places(WEB), (1, 2))
        self.assertEqual(core_groups(WEB), [((1, 2), 2)])

    def test_rings_that_share_places(self):
        self.assertEqual(core_places(SHARED), tuple(range(8)))
        self.assertEqual(core_arrows(SHARED), tuple(
            arrow for arrow in SHARED[1] if arrow not in ((0, 4, 9), (2, 1, 5))
        ))
        self.assertEqual(core_groups(SHARED), [((0, 1, 2, 3), 1), ((4,), 1), ((5, 6, 7), 3)])

    def test_sizes(self):
        for many in range(1, 9):
            self.assertEqual(core_groups(circle(many, [0] * many)), [(tuple(range(many)), many)])
            # A way back from the middle makes a second ring, and both sizes have a common part.
            for at in range(many - 1):
                web = (many, tuple(sorted(circle(many, [0] * many)[1] + ((at, 0, 0),))))
                self.assertEqual(core_groups(web), [(tuple(range(many)), math.gcd(many, at + 1))])
                web = (many, tuple(sorted(circle(many, [0] * many)[1] + ((at, 0, 1),))))
                self.assertEqual(core_groups(web), [(tuple(range(many)), many)])

    def test_groups_by_their_least_places(self):
        web = (6, ((0, 5, 1), (1, 4, 1), (2, 2, 1), (4, 1, 1), (5, 0, 1)))
        self.assertEqual(core_groups(web), [((0, 5), 2), ((1, 4), 2), ((2,), 1)])
        self.assertEqual(core_places(web), (0, 1, 2, 4, 5))

    def test_rings_made_of_pieces_of_others(self):
        rings = quick_rings(PIECES)
        for ring in ((0, 1, 2, 3), (0, 3, 1, 2), (0, 3), (0, 1, 2), (1, 2, 3)):
            self.assertIn(ring, rings)
        self.assertEqual(core_arrows(PIECES), PIECES[1])
        self.assertEqual(core_groups(PIECES), [((0, 1, 2, 3), 1)])

    def test_made_webs(self):
        sizes = set()
        for web in webs_with_rings(311, 60):
            arrows = slow_core_arrows(web)
            self.assertEqual(core_arrows(web), arrows)
            self.assertEqual(core_places(web), tuple(sorted({arrow[0] for arrow in arrows})))
            groups = core_groups(web)
            self.assertEqual(groups, slow_core_groups(web))
            self.assertEqual(type(groups), list)
            sizes.update((len(places) > 1, size > 1) for places, size in groups)
        self.assertEqual(sizes, {(False, False), (True, False), (True, True)})

    def test_no_ring(self):
        for web in NO_RINGS:
            for ask in (core_places, core_arrows, core_groups):
                self.assertIs(type(raised(lambda: ask(web))), NoRing)


class So(unittest.TestCase):
    """5.4"""

    def numbers_of(self, web):
        """Several numbers that show the least mean: those told, and those from each place that leads all over."""
        mean = least_mean(web)
        told = [shows_for(web, mean), mean_paper(web)[1]]
        for place in range(web[0]):
            far = far_numbers(web, mean, place)
            if None not in far:
                told.append(tuple(far))
        return told + [tuple(as_pair(Fraction(*number) + BIG) for number in told[0])]

    def test_rings_of_tight_arrows(self):
        for web in webs_with_rings(321, 20, most=6):
            mean = Fraction(*least_mean(web))
            for numbers in self.numbers_of(web):
                tight = set(tight_arrows(web, numbers))
                self.assertLessEqual(set(core_arrows(web)), tight)
                for ring in quick_rings(web):
                    self.assertIs(arrows_on(web, ring) <= tight, slow_mean(web, ring) == mean)

    def test_rings_along_the_core(self):
        for web in webs_with_rings(325, 40) + [SHARED, PIECES]:
            core = (web[0], core_arrows(web))
            self.assertEqual(quick_rings(core), slow_core(web))
            for ring in quick_rings(core):
                self.assertEqual(as_pair(slow_mean(web, ring)), least_mean(web))

    def test_things_within_numbers(self):
        for thing in odd_things():
            self.assertIs(type(raised(lambda: tight_arrows(WEB, (thing, thing, thing)))), NoNumber)


if __name__ == "__main__":
    unittest.main()
