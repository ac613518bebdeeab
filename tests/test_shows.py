"""4.1 to 4.6: numbers that show a bound."""

import copy
import random
import unittest
from fractions import Fraction

from material import (
    BIG, as_pair, bent_numbers, bent_papers, changed_worths, circle, is_numbers, is_pair, little, made_numbers,
    made_webs, no_places, put, quick_rings, raised, slow_comes, slow_mean, slow_rings, slow_ways, worth_gone,
)
from meanrings.errors import NoNumber, NoPlace
from meanrings.means import least_mean
from meanrings.shows import bound_of, far_numbers, mean_paper, mean_paper_good, ring_under, shows_for, shows_good
from meanrings.webs import ring_good

# Its rings are (0, 1, 2) of the mean 1, (1, 2) of the mean -1/2 and (2,) of the mean 7.
WEB = (3, ((0, 1, 5), (1, 2, -3), (2, 0, 1), (2, 1, 2), (2, 2, 7)))
NUMBERS = ((0, 1), (5, 2), (0, 1))
NO_RINGS = [(1, ()), (8, ()), (2, ((0, 1, -5),)), (4, ((0, 1, 1), (0, 2, -3), (1, 3, 1), (2, 3, 9)))]
# Two rings in groups of their own, and places before, between and behind them.
PARTED = (7, ((0, 1, 4), (1, 1, 9), (1, 2, -8), (2, 3, -8), (3, 4, 2), (4, 3, 3), (4, 5, -7)))


def chosen_webs(seed, count, most=6):
    return (
        made_webs(seed, count, most=most, arrows=8) + made_webs(seed + 1, count, most=most, worth=40)
        + made_webs(seed + 2, count, most=most, worth=BIG)
    )


def bounds_about(web):
    """Bounds at the least mean, a little above it and below it, and far off."""
    bounds = [(0, 1), (-1, 3), (BIG, 1), (-BIG, 7), (2 * BIG + 1, 2), (10 ** 39, 1), (-(10 ** 39), 10 ** 39 - 1)]
    mean = least_mean(web)
    if mean is not None:
        bounds.extend((mean,) + little(mean))
    return bounds


class ShowsGood(unittest.TestCase):
    def test_ordinary(self):
        self.assertIs(shows_good(WEB, (-1, 2), NUMBERS), True)
        self.assertIs(shows_good(WEB, (-1, 1), NUMBERS), True)
        self.assertIs(shows_good(WEB, (-1, 3), NUMBERS), False)
        self.assertIs(shows_good(WEB, (-1, 2), ((0, 1), (0, 1), (0, 1))), False)
        self.assertIs(shows_good(WEB, (-3, 1), ((0, 1), (0, 1), (0, 1))), True)

    def test_each_arrow_counts(self):
        for web in chosen_webs(201, 20, most=8):
            numbers = ((0, 1),) * web[0]
            for worth in {arrow[2] for arrow in web[1]}:
                self.assertIs(shows_good(web, (worth, 1), numbers), worth == min(arrow[2] for arrow in web[1]))

    def test_without_arrows_all_is_shown(self):
        for bound in ((0, 1), (BIG, 1), (-1, 2)):
            self.assertIs(shows_good((2, ()), bound, ((-7, 2), (10 ** 99, 3))), True)
            self.assertIs(shows_good((2, ()), bound, ((-7, 2),)), False)
            self.assertIs(shows_good((2, ()), bound, ()), False)

    def test_made_numbers(self):
        source = random.Random(202)
        for web in made_webs(203, 120, most=8):
            numbers = made_numbers(source, web[0])
            least = min(slow_comes(web, numbers), default=Fraction(0))
            above, below = little(as_pair(least))
            self.assertIs(shows_good(web, as_pair(least), numbers), True)
            self.assertIs(shows_good(web, below, numbers), True)
            self.assertIs(shows_good(web, above, numbers), not web[1])

    def test_bent(self):
        for thing in bent_numbers(NUMBERS):
            kept = copy.deepcopy(thing)
            self.assertIs(shows_good(WEB, (-1000, 1), thing), False, thing)
            self.assertEqual(repr(thing), repr(kept))

    def test_great_numbers(self):
        great = tuple((top * 10 ** 99 + 10 ** 99, 1) for top in (0, 0, 0))
        self.assertIs(shows_good(WEB, (-3, 1), great), True)
        self.assertIs(shows_good(WEB, (-1, 2), great), False)
        self.assertIs(shows_good(WEB, (-3, 1), put(great, 1, (10 ** 99, 10 ** 99 - 1))), False)

    def test_no_ring_has_less_than_what_is_shown(self):
        source = random.Random(204)
        for web in made_webs(205, 60, most=5):
            bound = bound_of(web, made_numbers(source, web[0]))
            for ring in slow_rings(web):
                self.assertGreaterEqual(slow_mean(web, ring), Fraction(*bound))


class ShowsFor(unittest.TestCase):
    def both(self, web, bound):
        """Looks at both answers, and tells whether some ring has less."""
        numbers, ring = shows_for(web, bound), ring_under(web, bound)
        self.assertEqual([numbers, ring].count(None), 1)
        if numbers is not None:
            self.assertTrue(is_numbers(web, numbers), numbers)
            self.assertGreaterEqual(min(slow_comes(web, numbers), default=Fraction(*bound)), Fraction(*bound))
            self.assertIs(shows_good(web, bound, numbers), True)
        else:
            self.assertIs(ring_good(web, ring), True)
            self.assertLess(slow_mean(web, ring), Fraction(*bound))
        return numbers is None

    def test_at_the_least_mean_and_about_it(self):
        self.assertIs(self.both(WEB, (-1, 2)), False)
        self.assertIs(self.both(WEB, (-1, 3)), True)
        self.assertEqual(ring_under(WEB, (-1, 3)), (1, 2))
        self.assertIs(self.both(WEB, (-2, 3)), False)

    def test_without_a_ring(self):
        for web in NO_RINGS:
            for bound in ((0, 1), (10 ** 39, 1), (-7, 3)):
                self.assertIs(self.both(web, bound), False)

    def test_places_that_do_not_all_lead_to_each_other(self):
        self.assertEqual(least_mean(PARTED), (5, 2))
        self.assertIs(self.both(PARTED, (5, 2)), False)
        self.assertIs(self.both(PARTED, (5, 3)), False)
        self.assertIs(self.both(PARTED, (8, 3)), True)
        self.assertEqual(ring_under(PARTED, (8, 3)), (3, 4))
        for worth in (2, 3):
            web = (3, ((0, 0, 5), (0, 1, -BIG), (1, 2, BIG), (2, 2, worth)))
            self.assertIs(self.both(web, (worth, 1)), False)
            self.assertIs(self.both(web, (worth + 1, 1)), True)

    def test_made_webs(self):
        for web in chosen_webs(211, 40):
            means = [slow_mean(web, ring) for ring in slow_rings(web)]
            for bound in bounds_about(web):
                self.assertIs(self.both(web, bound), any(mean < Fraction(*bound) for mean in means))

    def test_eight_places(self):
        for web in made_webs(212, 25, least=8, most=8) + made_webs(213, 25, least=7, most=8, worth=BIG):
            means = [slow_mean(web, ring) for ring in quick_rings(web)]
            for bound in bounds_about(web):
                self.assertIs(self.both(web, bound), any(mean < Fraction(*bound) for mean in means))


class BoundOf(unittest.TestCase):
    def test_ordinary(self):
        self.assertEqual(bound_of(WEB, NUMBERS), (-1, 2))
        self.assertEqual(bound_of(WEB, ((0, 1), (0, 1), (0, 1))), (-3, 1))
        self.assertEqual(bound_of(WEB, ((1, 2), (1, 3), (1, 7))), as_pair(-3 + Fraction(1, 3) - Fraction(1, 7)))
        self.assertEqual(bound_of((1, ((0, 0, 4),)), ((-5, 3),)), (4, 1))
        self.assertEqual(bound_of((2, ((0, 1, 1),)), ((0, 1), (1, 1))), (0, 1))

    def test_without_arrows(self):
        for many in range(1, 9):
            self.assertIsNone(bound_of((many, ()), ((-1, 2),) * many))
            for thing in (((-1, 2),) * (many + 1), ((-1, 2),) * (many - 1), ((2, 2),) * many, None):
                self.assertIs(type(raised(lambda: bound_of((many, ()), thing))), NoNumber)

    def test_made_numbers(self):
        source = random.Random(221)
        for web in chosen_webs(222, 40, most=8):
            numbers = made_numbers(source, web[0], most=source.choice((20, BIG)))
            self.assertEqual(bound_of(web, numbers), as_pair(min(slow_comes(web, numbers), default=None)))

    def test_bent(self):
        for thing in bent_numbers(NUMBERS):
            kept = copy.deepcopy(thing)
            self.assertIs(type(raised(lambda: bound_of(WEB, thing))), NoNumber, thing)
            self.assertEqual(repr(thing), repr(kept))

    def test_great_numbers(self):
        self.assertEqual(bound_of((2, ((0, 1, 1),)), ((10 ** 99, 1), (10 ** 99, 1))), (1, 1))
        told = bound_of((2, ((0, 1, 1),)), ((1, 10 ** 99), (1, 10 ** 99 - 1)))
        self.assertEqual(told, as_pair(1 + Fraction(1, 10 ** 99) - Fraction(1, 10 ** 99 - 1)))


class MeanPaper(unittest.TestCase):
    def good(self, thing, web=WEB):
        self.assertIs(mean_paper_good(web, thing), True, thing)

    def bad(self, thing, web=WEB):
        self.assertIs(mean_paper_good(web, thing), False, thing)

    def test_ordinary(self):
        self.good(((1, 2), NUMBERS))
        paper = mean_paper(WEB)
        self.assertEqual(paper[0], (1, 2))
        self.good(paper)

    def test_the_ring(self):
        for ring in ((2, 1), (0, 1, 2), (2,), (0,), (0, 1), (1, 2, 1), (1, 2, 3), [1, 2], (True, 2), ()):
            self.bad((ring, NUMBERS))
        # Begun elsewhere and turned about, though each of these is gone all around.
        web = changed_worths((3, tuple((one, other, 0) for one in range(3) for other in range(3))), lambda worth: 4)
        numbers = ((0, 1),) * 3
        for ring in slow_rings(web):
            self.good((ring, numbers), web=web)
        for ring in ((1, 2, 0), (2, 0, 1), (2, 1, 0), (1, 0, 2), (1, 0), (0, 0), (0, 1, 2, 0)):
            self.bad((ring, numbers), web=web)
        self.bad(((0, 2, 1), numbers), web=circle(3, [0, 0, 0]))
        self.good(((0, 1, 2), numbers), web=circle(3, [0, 0, 0]))

    def test_numbers_that_show_less_than_its_mean(self):
        for numbers in (((0, 1),) * 3, put(NUMBERS, 1, (2, 1)), put(NUMBERS, 1, (3, 1)), put(NUMBERS, 2, (1, 9))):
            self.bad(((1, 2), numbers))
        self.good(((1, 2), put(NUMBERS, 0, (-1, 1))))

    def test_bent(self):
        for thing in bent_papers((1, 2), NUMBERS):
            kept = copy.deepcopy(thing)
            self.bad(thing)
            self.assertEqual(repr(thing), repr(kept))

    def test_without_a_ring(self):
        for web in NO_RINGS:
            self.assertIsNone(mean_paper(web))
            numbers = ((0, 1),) * web[0]
            for ring in ((), (0,), (0, 1), None):
                self.bad((ring, numbers), web=web)
            self.bad(None, web=web)

    def test_made_webs(self):
        for web in chosen_webs(231, 40, most=8):
            rings = quick_rings(web)
            paper = mean_paper(web)
            self.assertEqual(paper is None, not rings)
            if paper is not None:
                least = min(slow_mean(web, ring) for ring in rings)
                self.assertEqual(type(paper), tuple)
                self.assertEqual(slow_mean(web, paper[0]), least)
                self.good(paper, web=web)
                for ring in rings:
                    self.assertIs(mean_paper_good(web, (ring, paper[1])), slow_mean(web, ring) == least)


class FarNumbers(unittest.TestCase):
    def test_ordinary(self):
        self.assertEqual(far_numbers(WEB, (-1, 2), 0), [(0, 1), (11, 2), (3, 1)])
        self.assertEqual(far_numbers(WEB, (-1, 1), 2), [(2, 1), (3, 1), (0, 1)])
        self.assertEqual(far_numbers((1, ((0, 0, 5),)), (5, 1), 0), [(0, 1)])
        self.assertEqual(far_numbers((1, ()), (5, 1), 0), [(0, 1)])

    def test_places_that_no_way_comes_to(self):
        self.assertEqual(far_numbers((3, ((0, 1, 2),)), (1, 3), 0), [(0, 1), (5, 3), None])
        self.assertEqual(far_numbers((3, ((0, 1, 2),)), (1, 3), 1), [None, (0, 1), None])
        told = far_numbers(PARTED, (5, 2), 3)
        self.assertEqual(told, [None, None, None, (0, 1), (-1, 2), (-10, 1), None])

    def test_made_webs(self):
        for web in made_webs(241, 40, most=4, arrows=6) + made_webs(242, 20, most=4, worth=BIG, arrows=6):
            for bound in bounds_about(web):
                if all(slow_mean(web, ring) >= Fraction(*bound) for ring in slow_rings(web)):
                    for place in range(web[0]):
                        self.assertEqual(far_numbers(web, bound, place), self.slow_far(web, bound, place))

    def slow_far(self, web, bound, place):
        """By all ways of at most five arrows, more than a web of four places asks for."""
        least = {}
        for k in range(6):
            for way in slow_ways(web, k):
                if way[0] == place:
                    number = worth_gone(web, way) - k * Fraction(*bound)
                    least[way[-1]] = min(least.get(way[-1], number), number)
        return [as_pair(least.get(other)) for other in range(web[0])]

    def test_eight_places_in_a_row(self):
        web = (8, tuple((at, at + 1, -BIG) for at in range(7)))
        self.assertEqual(far_numbers(web, (1, 2), 0), [as_pair(-at * (BIG + Fraction(1, 2))) for at in range(8)])

    def test_no_place(self):
        for thing in no_places(3) + [3]:
            # Both refusals are due with the second bound.
            for bound in ((-1, 2), (0, 1)):
                self.assertIs(type(raised(lambda: far_numbers(WEB, bound, thing))), NoPlace, thing)

    def test_no_number(self):
        for place in range(3):
            self.assertIs(type(raised(lambda: far_numbers(WEB, (-1, 3), place))), NoNumber)
            self.assertIsNone(raised(lambda: far_numbers(WEB, (-1, 2), place)))
        # No way from the places 0, 5 and 6 comes to the ring, or none comes from it, and yet it counts.
        for place in range(7):
            self.assertIs(type(raised(lambda: far_numbers(PARTED, (8, 3), place))), NoNumber)
        for web in NO_RINGS:
            self.assertIsNone(raised(lambda: far_numbers(web, (10 ** 39, 1), 0)))

    def test_made_refusals(self):
        for web in chosen_webs(243, 20):
            means = [slow_mean(web, ring) for ring in slow_rings(web)]
            for bound in bounds_about(web):
                error = raised(lambda: far_numbers(web, bound, web[0] - 1))
                due = any(mean < Fraction(*bound) for mean in means)
                self.assertIs(type(error), NoNumber if due else type(None))


class So(unittest.TestCase):
    """4.6"""

    def test_bounds_are_never_greater_than_the_least_mean(self):
        source = random.Random(251)
        for web in chosen_webs(252, 30, most=8):
            mean = least_mean(web)
            if mean is not None:
                self.assertLessEqual(Fraction(*bound_of(web, made_numbers(source, web[0]))), Fraction(*mean))
                self.assertEqual(bound_of(web, mean_paper(web)[1]), mean)

    def test_far_numbers_show_the_bound(self):
        shown = 0
        for web in chosen_webs(255, 40, most=8):
            for bound in bounds_about(web):
                if shows_for(web, bound) is not None:
                    told = far_numbers(web, bound, 0)
                    self.assertEqual(type(told), list)
                    self.assertTrue(all(part is None or is_pair(part) for part in told))
                    if None not in told:
                        shown += 1
                        self.assertIs(shows_good(web, bound, tuple(told)), True)
        self.assertGreater(shown, 50)

    def test_numbers_greater_by_as_much_and_lesser_bounds(self):
        for web in chosen_webs(258, 20, most=8):
            for bound in bounds_about(web):
                numbers = shows_for(web, bound)
                if numbers is not None:
                    for more in (1, Fraction(-7, 3), BIG):
                        moved = tuple(as_pair(Fraction(*number) + more) for number in numbers)
                        self.assertIs(shows_good(web, bound, moved), True)
                        self.assertEqual(bound_of(web, moved), bound_of(web, numbers))
                    for less in (Fraction(1, 10 ** 20), 1, BIG):
                        self.assertIs(shows_good(web, as_pair(Fraction(*bound) - less), numbers), True)


if __name__ == "__main__":
    unittest.main()
