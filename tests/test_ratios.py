"""6.1 to 6.5: two worths."""

import copy
import random
import unittest
from fractions import Fraction

from material import (
    BIG, as_pair, bent_numbers, bent_papers, changed_worths, circle, is_numbers, is_whole, little, made_numbers,
    made_webs, odd_things, put, quick_rings, raised, slow_comes, slow_mean, slow_rings, worth_gone,
)
from meanrings.errors import NoNumber, NoRing, TooGreat
from meanrings.means import least_mean
from meanrings.ratios import (
    least_ratio, ratio_bound_of, ratio_paper, ratio_paper_good, ratio_ring, ratio_shows_for, ratio_shows_good,
    ratios_of, ring_ratio,
)
from meanrings.shows import bound_of, mean_paper_good, shows_good
from meanrings.webs import ring_good, ring_mean

# Its rings are (0, 1, 2) of the ratio 3/15, (1, 2) of the ratio -1/6 and (2,) of the ratio 7/1000.
WEB = (3, ((0, 1, 5), (1, 2, -3), (2, 0, 1), (2, 1, 2), (2, 2, 7)))
SPANS = (10, 1, 4, 5, 1000)
# Each arrow comes to at least -1/6 times its span by them, those of the ring (1, 2) to just this.
NUMBERS = ((0, 1), (17, 6), (0, 1))
NO_RINGS = [(1, ()), (8, ()), (2, ((0, 1, -5),)), (4, ((0, 1, 1), (0, 2, -3), (1, 3, 1), (2, 3, 9)))]


def made_spans(source, web, most=1000):
    return tuple(source.choice((1, most, source.randint(1, most))) for arrow in web[1])


def chosen(seed, count, most=6):
    """Webs with spans: of few and of many arrows, of small and of great worths, of small and of great spans."""
    source = random.Random(seed)
    webs = (
        made_webs(seed, count, most=most, arrows=10) + made_webs(seed + 1, count, most=most, worth=40)
        + made_webs(seed + 2, count, most=most, worth=BIG) + made_webs(seed + 3, count, most=most, worth=2)
    )
    return [(web, made_spans(source, web, source.choice((3, 1000)))) for web in webs]


def slow_ratio(web, spans, ring):
    table = {arrow[:2]: span for arrow, span in zip(web[1], spans)}
    gone = zip(ring, ring[1:] + ring[:1])
    return Fraction(worth_gone(web, ring + ring[:1]), sum(table[step] for step in gone))


def slow_ratios(web, spans):
    return sorted({slow_ratio(web, spans, ring) for ring in quick_rings(web)})


def slow_shares(web, spans, numbers):
    return [come / span for come, span in zip(slow_comes(web, numbers), spans)]


def no_spans(web, spans):
    """Things that are no spans of a web of one arrow or more."""
    wrong = [part for part in odd_things() if not (is_whole(part) and 1 <= part <= 1000)]
    wrong.extend([0, 1001, -1, True, False, (1, 1), [1], "1"])
    bent = [put(spans, at, part) for at in range(len(spans)) for part in wrong]
    bent.extend([spans[:-1], spans[1:], spans + (1,), (1,) + spans, list(spans), (spans,), spans + spans, ()])
    return bent + odd_things()


def asks(web, spans, ring, numbers):
    """Each function of the module with these spans."""
    return [
        lambda: ring_ratio(web, spans, ring), lambda: least_ratio(web, spans), lambda: ratio_ring(web, spans),
        lambda: ratios_of(web, spans), lambda: ratio_shows_good(web, spans, (0, 1), numbers),
        lambda: ratio_shows_for(web, spans, (0, 1)), lambda: ratio_bound_of(web, spans, numbers),
        lambda: ratio_paper_good(web, spans, (ring, numbers)), lambda: ratio_paper(web, spans),
    ]


class Spans(unittest.TestCase):
    def test_bent_for_each_function(self):
        for spans in no_spans(WEB, SPANS):
            kept = copy.deepcopy(spans)
            for ask in asks(WEB, spans, (1, 2), NUMBERS):
                self.assertIs(type(raised(ask)), NoNumber, spans)
            self.assertEqual(repr(spans), repr(kept))

    def test_ahead_of_all_else(self):
        # No ring, more than six places, no numbers and no paper are due as well.
        for web in NO_RINGS + [circle(8, [1] * 8)]:
            for spans in (None, (1,) * (len(web[1]) + 1), [1] * len(web[1]), (0,) * len(web[1]) or 0):
                for ask in asks(web, spans, None, None):
                    self.assertIs(type(raised(ask)), NoNumber, (web, spans))

    def test_a_web_without_arrows(self):
        for spans in [thing for thing in odd_things() if thing != ()]:
            for ask in asks((1, ()), spans, (0,), ((0, 1),)):
                self.assertIs(type(raised(ask)), NoNumber, spans)

    def test_one_and_a_thousand(self):
        for span in (1, 2, 999, 1000):
            self.assertEqual(ring_ratio(circle(3, [1, 2, 4]), (span,) * 3, (0, 1, 2)), as_pair(Fraction(7, 3 * span)))
            self.assertEqual(least_ratio((1, ((0, 0, 3),)), (span,)), as_pair(Fraction(3, span)))


class RingRatio(unittest.TestCase):
    def test_ordinary(self):
        self.assertEqual(ring_ratio(WEB, SPANS, (0, 1, 2)), (1, 5))
        self.assertEqual(ring_ratio(WEB, SPANS, (1, 2)), (-1, 6))
        self.assertEqual(ring_ratio(WEB, SPANS, (2,)), (7, 1000))
        self.assertEqual(ring_ratio(circle(2, [3, -3]), (7, 9), (0, 1)), (0, 1))

    def test_made_webs(self):
        for web, spans in chosen(401, 25):
            for ring in slow_rings(web):
                self.assertEqual(ring_ratio(web, spans, ring), as_pair(slow_ratio(web, spans, ring)))

    def test_no_ring(self):
        for thing in odd_things() + [(1, 0, 2), (2, 1), (0, 2, 1), [1, 2], (0, 1), (1, 2, 1), (True, 2), (1, 2, 3)]:
            if thing == (1, 2):
                continue
            self.assertIs(type(raised(lambda: ring_ratio(WEB, SPANS, thing))), NoRing, thing)
            self.assertIs(type(raised(lambda: ring_ratio(WEB, SPANS[1:], thing))), NoNumber, thing)
        for web in NO_RINGS:
            for thing in ((0,), (0, 1), ()):
                self.assertIs(type(raised(lambda: ring_ratio(web, (1,) * len(web[1]), thing))), NoRing)


class LeastRatio(unittest.TestCase):
    def look(self, web, spans):
        ratios = slow_ratios(web, spans)
        least, ring = least_ratio(web, spans), ratio_ring(web, spans)
        if not ratios:
            self.assertIsNone(least)
            self.assertIsNone(ring)
        else:
            self.assertEqual(least, as_pair(ratios[0]))
            self.assertIs(ring_good(web, ring), True)
            self.assertEqual(slow_ratio(web, spans, ring), ratios[0])

    def test_ordinary(self):
        self.assertEqual(least_ratio(WEB, SPANS), (-1, 6))
        self.assertEqual(ratio_ring(WEB, SPANS), (1, 2))
        # The ring of the least mean has not the least ratio.
        web = (2, ((0, 0, 2), (0, 1, 3), (1, 0, 3)))
        self.assertEqual(least_ratio(web, (1, 4, 4)), (3, 4))
        self.assertEqual(ratio_ring(web, (1, 4, 4)), (0, 1))
        self.assertEqual(ratio_ring(web, (3, 4, 4)), (0,))
        # Below 0 a greater span is no help.
        self.assertEqual(least_ratio((2, ((0, 0, -5), (1, 1, -4))), (1000, 1)), (-4, 1))

    def test_without_a_ring(self):
        for web in NO_RINGS:
            self.look(web, (7,) * len(web[1]))

    def test_made_webs(self):
        for web, spans in chosen(411, 60):
            self.look(web, spans)

    def test_eight_places(self):
        source = random.Random(415)
        for web in made_webs(416, 60, least=8, most=8) + made_webs(417, 60, least=7, most=8, worth=BIG):
            self.look(web, made_spans(source, web))

    def test_ratios_that_lie_close(self):
        # Each place has one ring, and the ratios differ by little beside the worths.
        arrows = tuple((place, place, BIG - place) for place in range(8))
        for spans in ((1000,) * 8, (1000, 1000, 1000, 999, 1000, 1000, 1000, 1000), (1,) + (1000,) * 7):
            self.look((8, arrows), spans)


class RatiosOf(unittest.TestCase):
    def test_ordinary(self):
        self.assertEqual(ratios_of(WEB, SPANS), [(-1, 6), (7, 1000), (1, 5)])
        self.assertEqual(ratios_of(WEB, (1,) * 5), [(-1, 2), (1, 1), (7, 1)])
        self.assertEqual(ratios_of((1, ((0, 0, 0),)), (5,)), [(0, 1)])

    def test_unlike_ones_alone(self):
        web = (3, ((0, 0, 2), (0, 1, 1), (1, 0, 3), (1, 1, 4), (2, 2, -6)))
        self.assertEqual(ratios_of(web, (1, 1, 1, 2, 3)), [(-2, 1), (2, 1)])

    def test_made_webs(self):
        for web, spans in chosen(421, 40):
            told = ratios_of(web, spans)
            self.assertEqual(type(told), list)
            self.assertEqual(told, [as_pair(ratio) for ratio in slow_ratios(web, spans)])

    def test_how_many_places(self):
        self.assertEqual(ratios_of(circle(6, [1] * 6), (2,) * 6), [(1, 2)])
        for many in (7, 8):
            for web in (circle(many, [1] * many), (many, ())):
                error = raised(lambda: ratios_of(web, (2,) * len(web[1])))
                self.assertIs(type(error), TooGreat)
                self.assertEqual((error.many, error.most), (many, 6))
                self.assertIs(type(raised(lambda: ratios_of(web, (2,) * len(web[1]) + (1,)))), NoNumber)

    def test_without_a_ring(self):
        for web in NO_RINGS:
            if web[0] <= 6:
                self.assertEqual(ratios_of(web, (7,) * len(web[1])), [])


class RatioShows(unittest.TestCase):
    def test_ordinary(self):
        self.assertIs(ratio_shows_good(WEB, SPANS, (-1, 6), NUMBERS), True)
        self.assertIs(ratio_shows_good(WEB, SPANS, (-1, 5), NUMBERS), True)
        self.assertIs(ratio_shows_good(WEB, SPANS, (-1, 7), NUMBERS), False)
        self.assertIs(ratio_shows_good(WEB, (1,) * 5, (-1, 6), NUMBERS), False)
        self.assertEqual(ratio_bound_of(WEB, SPANS, NUMBERS), (-1, 6))
        self.assertEqual(ratio_bound_of(WEB, SPANS, ((0, 1),) * 3), (-3, 1))

    def test_without_arrows(self):
        for many in range(1, 9):
            numbers = ((-7, 2),) * many
            self.assertIsNone(ratio_bound_of((many, ()), (), numbers))
            self.assertIs(ratio_shows_good((many, ()), (), (BIG, 1), numbers), True)
            self.assertIs(ratio_shows_good((many, ()), (), (BIG, 1), numbers[1:]), False)
            self.assertIs(type(raised(lambda: ratio_bound_of((many, ()), (), numbers[1:]))), NoNumber)

    def test_bent(self):
        for thing in bent_numbers(NUMBERS):
            kept = copy.deepcopy(thing)
            self.assertIs(ratio_shows_good(WEB, SPANS, (-1000, 1), thing), False, thing)
            self.assertIs(type(raised(lambda: ratio_bound_of(WEB, SPANS, thing))), NoNumber, thing)
            self.assertEqual(repr(thing), repr(kept))

    def test_made_numbers(self):
        source = random.Random(431)
        for web, spans in chosen(432, 30, most=8):
            numbers = made_numbers(source, web[0], most=source.choice((20, BIG)))
            least = as_pair(min(slow_shares(web, spans, numbers), default=None))
            self.assertEqual(ratio_bound_of(web, spans, numbers), least)
            if least is not None:
                above, below = little(least)
                self.assertIs(ratio_shows_good(web, spans, least, numbers), True)
                self.assertIs(ratio_shows_good(web, spans, below, numbers), True)
                self.assertIs(ratio_shows_good(web, spans, above, numbers), False)

    def test_shows_for(self):
        for web, spans in chosen(435, 40, most=8):
            ratios = slow_ratios(web, spans)
            bounds = [(0, 1), (1, 3), (BIG, 1), (-BIG, 7)]
            if ratios:
                bounds.extend((as_pair(ratios[0]),) + little(as_pair(ratios[0])))
            for bound in bounds:
                numbers = ratio_shows_for(web, spans, bound)
                self.assertEqual(numbers is None, any(ratio < Fraction(*bound) for ratio in ratios))
                if numbers is not None:
                    self.assertTrue(is_numbers(web, numbers))
                    shares = slow_shares(web, spans, numbers)
                    self.assertTrue(all(share >= Fraction(*bound) for share in shares))
                    self.assertIs(ratio_shows_good(web, spans, bound, numbers), True)

    def test_shows_for_without_a_ring(self):
        for web in NO_RINGS:
            for bound in ((0, 1), (10 ** 39, 1), (-7, 3)):
                spans = (3,) * len(web[1])
                self.assertIs(ratio_shows_good(web, spans, bound, ratio_shows_for(web, spans, bound)), True)

    def test_no_ring_has_less_than_what_is_shown(self):
        source = random.Random(436)
        for web, spans in chosen(437, 20):
            bound = ratio_bound_of(web, spans, made_numbers(source, web[0]))
            self.assertTrue(all(ratio >= Fraction(*bound) for ratio in slow_ratios(web, spans)))


class RatioPaper(unittest.TestCase):
    def good(self, thing):
        self.assertIs(ratio_paper_good(WEB, SPANS, thing), True, thing)

    def bad(self, thing):
        self.assertIs(ratio_paper_good(WEB, SPANS, thing), False, thing)

    def test_ordinary(self):
        self.good(((1, 2), NUMBERS))
        self.good(ratio_paper(WEB, SPANS))
        self.assertEqual(ratio_paper(WEB, SPANS)[0], (1, 2))
        # By other spans the same paper shows nothing.
        self.assertIs(ratio_paper_good(WEB, (1,) * 5, ((1, 2), NUMBERS)), False)

    def test_the_ring(self):
        for ring in ((2, 1), (0, 1, 2), (2,), (0,), (0, 1), (1, 2, 1), (1, 2, 3), [1, 2], (True, 2), ()):
            self.bad((ring, NUMBERS))
        web, numbers = circle(3, [0, 0, 0]), ((0, 1),) * 3
        for ring in ((0, 1, 2), (1, 2, 0), (2, 0, 1), (0, 2, 1), (2, 1, 0)):
            self.assertIs(ratio_paper_good(web, (1, 2, 3), (ring, numbers)), ring == (0, 1, 2))

    def test_numbers_that_show_less_than_its_ratio(self):
        for numbers in (((0, 1),) * 3, put(NUMBERS, 1, (5, 2)), put(NUMBERS, 1, (3, 1)), put(NUMBERS, 2, (1, 9))):
            self.bad(((1, 2), numbers))
        self.good(((1, 2), put(NUMBERS, 0, (-1, 1))))

    def test_bent(self):
        for thing in bent_papers((1, 2), NUMBERS):
            kept = copy.deepcopy(thing)
            self.bad(thing)
            self.assertEqual(repr(thing), repr(kept))

    def test_without_a_ring(self):
        for web in NO_RINGS:
            spans = (3,) * len(web[1])
            self.assertIsNone(ratio_paper(web, spans))
            for ring in ((), (0,), (0, 1), None):
                self.assertIs(ratio_paper_good(web, spans, (ring, ((0, 1),) * web[0])), False)

    def test_made_webs(self):
        for web, spans in chosen(441, 30, most=8):
            rings = quick_rings(web)
            paper = ratio_paper(web, spans)
            self.assertEqual(paper is None, not rings)
            if paper is not None:
                least = slow_ratios(web, spans)[0]
                self.assertEqual(type(paper), tuple)
                self.assertIs(ratio_paper_good(web, spans, paper), True)
                for ring in rings:
                    good = slow_ratio(web, spans, ring) == least
                    self.assertIs(ratio_paper_good(web, spans, (ring, paper[1])), good)


class So(unittest.TestCase):
    """6.5"""

    def test_spans_of_one(self):
        source = random.Random(451)
        for web, spans in chosen(452, 25):
            ones = (1,) * len(web[1])
            for ring in slow_rings(web):
                self.assertEqual(ring_ratio(web, ones, ring), ring_mean(web, ring))
            self.assertEqual(least_ratio(web, ones), least_mean(web))
            self.assertEqual(ratios_of(web, ones), [as_pair(mean) for mean in sorted(
                {slow_mean(web, ring) for ring in slow_rings(web)}
            )])
            numbers = made_numbers(source, web[0])
            self.assertEqual(ratio_bound_of(web, ones, numbers), bound_of(web, numbers))
            self.assertIs(shows_good(web, (-2 * BIG, 1), ratio_shows_for(web, ones, (-2 * BIG, 1))), True)
            if least_mean(web) is not None:
                self.assertIs(mean_paper_good(web, ratio_paper(web, ones)), True)

    def test_spans_so_many_times_greater(self):
        source = random.Random(455)
        for web in made_webs(456, 60):
            spans = made_spans(source, web, 10)
            for by in (2, 7, 100):
                told = ratios_of(web, tuple(span * by for span in spans))
                self.assertEqual(told, [as_pair(Fraction(*ratio) / by) for ratio in ratios_of(web, spans)])

    def test_worths_that_are_as_often_their_spans(self):
        source = random.Random(457)
        for web in made_webs(458, 60):
            spans = made_spans(source, web)
            for often in (0, 3, -10 ** 27):
                worths = iter(spans)
                often_web = changed_worths(web, lambda worth: often * next(worths))
                self.assertEqual(ratios_of(often_web, spans), [(often, 1)] if slow_rings(web) else [])
                self.assertEqual(least_ratio(often_web, spans), (often, 1) if slow_rings(web) else None)


if __name__ == "__main__":
    unittest.main()
