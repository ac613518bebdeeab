"""8.1 to 8.5: arrows put and cut, what the least mean makes of it, and webs with all worths changed."""

import random
import unittest
from fractions import Fraction

from material import (
    BIG, as_pair, changed_worths, circle, is_pair, made_webs, no_places, no_whole_within, odd_things, put, quick_rings,
    raised, refusal, slow_mean, worth_gone, worth_table,
)
from meanrings.changes import (
    may_fall, mean_without, rise_till, scaled_web, shifted_web, with_arrow, without_arrow,
)
from meanrings.errors import NoArrow, NoNumber, NoPlace, TooGreat
from meanrings.means import greatest_mean, least_mean
from meanrings.tight import core_arrows
from meanrings.webs import rings_of, web_good

# Its rings are (0, 1, 2) of the mean 1, (1, 2) of the mean -1/2 and (2,) of the mean 7.
WEB = (3, ((0, 1, 5), (1, 2, -3), (2, 0, 1), (2, 1, 2), (2, 2, 7)))
FULL = (8, tuple((one, other, one - 2 * other) for one in range(8) for other in range(3)))
NO_RINGS = [(2, ((0, 1, -5),)), (4, ((0, 1, 1), (0, 2, -3), (1, 3, 1), (2, 3, 9)))]
STEP = Fraction(1, 10 ** 9 + 7)
QUESTIONS = (may_fall, mean_without, rise_till)


def goes_along(ring, one, other):
    return (one, other) in zip(ring, ring[1:] + ring[:1])


def slow_least(web, one, other, more):
    """The least mean with the worth of one arrow so much greater, by all rings; None where there is none."""
    means = [
        slow_mean(web, ring) + (Fraction(more) / len(ring) if goes_along(ring, one, other) else 0)
        for ring in quick_rings(web)
    ]
    return min(means, default=None)


def slow_without(web, one, other):
    means = [slow_mean(web, ring) for ring in quick_rings(web) if not goes_along(ring, one, other)]
    return min(means, default=None)


def chosen_webs(seed, count):
    return (
        made_webs(seed, count, most=5, arrows=9) + made_webs(seed + 1, count, most=6, worth=1)
        + made_webs(seed + 2, count, most=6, worth=BIG) + made_webs(seed + 3, count // 2, least=7, most=8)
        + made_webs(seed + 4, count // 2, least=7, most=8, worth=BIG, arrows=16)
    )


class WithArrow(unittest.TestCase):
    def test_where_one_is(self):
        self.assertEqual(with_arrow(WEB, 1, 2, 9), (3, put(WEB[1], 1, (1, 2, 9))))
        self.assertEqual(with_arrow(WEB, 2, 2, -1), (3, put(WEB[1], 4, (2, 2, -1))))
        self.assertEqual(with_arrow(WEB, 0, 1, 5), WEB)

    def test_where_none_is(self):
        self.assertEqual(with_arrow(WEB, 0, 0, 4), (3, ((0, 0, 4),) + WEB[1]))
        self.assertEqual(with_arrow(WEB, 1, 0, 4), (3, WEB[1][:1] + ((1, 0, 4),) + WEB[1][1:]))
        self.assertEqual(with_arrow((1, ()), 0, 0, -7), (1, ((0, 0, -7),)))
        self.assertEqual(with_arrow((8, ()), 7, 0, 0), (8, ((7, 0, 0),)))

    def test_made_webs(self):
        for web in made_webs(401, 60, most=8, arrows=23):
            for one in range(web[0]):
                for other in range(web[0]):
                    told = with_arrow(web, one, other, 77)
                    self.assertIs(web_good(told), len(web[1]) < 24 or (one, other) in worth_table(web))
                    self.assertEqual(worth_table(told), {**worth_table(web), (one, other): 77})
                    self.assertEqual(told[0], web[0])

    def test_worths(self):
        for worth in (BIG, -BIG, 0, -1):
            for web in (WEB, (1, ())):
                told = with_arrow(web, 0, 0, worth)
                self.assertIs(web_good(told), True)
                self.assertEqual(told[1][0], (0, 0, worth))
        for worth in no_whole_within(-BIG, BIG):
            self.assertIs(refusal(with_arrow, WEB, 0, 1, worth), NoNumber, worth)
            self.assertIs(refusal(with_arrow, WEB, 0, 0, worth), NoNumber, worth)

    def test_the_twenty_fifth(self):
        self.assertIs(web_good(FULL), True)
        self.assertEqual(len(FULL[1]), 24)
        error = raised(lambda: with_arrow(FULL, 0, 3, 1))
        self.assertIs(type(error), TooGreat)
        self.assertEqual(vars(error), {"many": 25, "most": 24})
        self.assertEqual(with_arrow(FULL, 0, 2, 1), (8, put(FULL[1], 2, (0, 2, 1))))
        fewer = (8, FULL[1][1:])
        self.assertEqual(len(with_arrow(fewer, 7, 7, 1)[1]), 24)

    def test_no_places(self):
        for thing in no_places(3) + [3]:
            self.assertIs(refusal(with_arrow, WEB, thing, 0, 1), NoPlace, thing)
            self.assertIs(refusal(with_arrow, WEB, 0, thing, 1), NoPlace, thing)
            self.assertIs(refusal(with_arrow, WEB, thing, thing, 1), NoPlace, thing)

    def test_several_at_once(self):
        for thing in no_places(8):
            self.assertIs(refusal(with_arrow, FULL, thing, 3, None), NoPlace)
            self.assertIs(refusal(with_arrow, FULL, 0, thing, None), NoPlace)
            self.assertIs(refusal(with_arrow, FULL, 0, thing, 1), NoPlace)
        for worth in no_whole_within(-BIG, BIG):
            self.assertIs(refusal(with_arrow, FULL, 0, 3, worth), NoNumber)


class WithoutArrow(unittest.TestCase):
    def test_ordinary(self):
        for at, (one, other, worth) in enumerate(WEB[1]):
            self.assertEqual(without_arrow(WEB, one, other), (3, WEB[1][:at] + WEB[1][at + 1:]))
        self.assertEqual(without_arrow((1, ((0, 0, 5),)), 0, 0), (1, ()))
        self.assertEqual(len(without_arrow(FULL, 7, 2)[1]), 23)

    def test_back_again(self):
        for web in made_webs(411, 40, most=8):
            for one, other, worth in web[1]:
                self.assertEqual(with_arrow(without_arrow(web, one, other), one, other, worth), web)


class Refused(unittest.TestCase):
    """What is asked of an arrow is refused alike."""

    def test_no_places(self):
        for ask in (without_arrow,) + QUESTIONS:
            for thing in no_places(3) + [3]:
                self.assertIs(refusal(ask, WEB, thing, 0), NoPlace, thing)
                self.assertIs(refusal(ask, WEB, 0, thing), NoPlace, thing)
                self.assertIs(refusal(ask, WEB, thing, thing), NoPlace, thing)
                self.assertIs(refusal(ask, (3, ()), thing, thing), NoPlace, thing)

    def test_no_arrows(self):
        for ask in (without_arrow,) + QUESTIONS:
            for one in range(3):
                for other in range(3):
                    there = (one, other) in worth_table(WEB)
                    self.assertIs(refusal(ask, WEB, one, other), type(None) if there else NoArrow)
                    self.assertIs(refusal(ask, (3, ()), one, other), NoArrow)
            self.assertIs(refusal(ask, NO_RINGS[0], 1, 0), NoArrow)
            self.assertIs(refusal(ask, (1, ()), 0, 0), NoArrow)


class MayFall(unittest.TestCase):
    def test_ordinary(self):
        self.assertEqual(may_fall(WEB, 1, 2), (0, 1))
        self.assertEqual(may_fall(WEB, 2, 1), (0, 1))
        self.assertEqual(may_fall(WEB, 0, 1), (9, 2))
        self.assertEqual(may_fall(WEB, 2, 0), (9, 2))
        self.assertEqual(may_fall(WEB, 2, 2), (15, 2))

    def test_the_only_ring(self):
        for many in range(1, 9):
            web = circle(many, [7, -3, 0, 5, -5, 1, 2, 2])
            for one, other, worth in web[1]:
                self.assertEqual(may_fall(web, one, other), (0, 1))

    def test_on_no_ring(self):
        for web in NO_RINGS:
            for one, other, worth in web[1]:
                self.assertIsNone(may_fall(web, one, other))
        web = (4, ((0, 0, 1), (0, 1, -BIG), (1, 2, 5), (2, 1, 5), (2, 3, -4)))
        self.assertIsNone(may_fall(web, 0, 1))
        self.assertIsNone(may_fall(web, 2, 3))
        self.assertEqual(may_fall(web, 0, 0), (0, 1))
        self.assertEqual(may_fall(web, 1, 2), (8, 1))

    def test_rings_of_another_group_have_the_least_mean(self):
        web = (4, ((0, 1, 4), (1, 0, 4), (2, 3, -1), (3, 2, 0), (3, 3, 1)))
        self.assertEqual(may_fall(web, 0, 1), (9, 1))
        self.assertEqual(may_fall(web, 3, 3), (3, 2))

    def test_made_webs(self):
        kinds = set()
        for web in chosen_webs(421, 40):
            core = core_arrows(web) if least_mean(web) is not None else ()
            for arrow in web[1]:
                one, other, worth = arrow
                told = may_fall(web, one, other)
                on_ring = any(goes_along(ring, one, other) for ring in quick_rings(web))
                kinds.add((on_ring, arrow in core, one == other))
                self.assertIs(told is None, not on_ring)
                if told is None:
                    continue
                self.assertTrue(is_pair(told), told)
                fall, least = Fraction(*told), slow_least(web, one, other, 0)
                self.assertGreaterEqual(fall, 0)
                self.assertIs(fall == 0, arrow in core)
                self.assertEqual(slow_least(web, one, other, -fall), least)
                self.assertEqual(slow_least(web, one, other, -fall / 2), least)
                self.assertLess(slow_least(web, one, other, -fall - STEP), least)
        self.assertEqual(len(kinds), 5)


class RiseTill(unittest.TestCase):
    def test_ordinary(self):
        self.assertEqual([mean_without(WEB, *arrow[:2]) for arrow in WEB[1]], [
            (-1, 2), (7, 1), (-1, 2), (1, 1), (-1, 2),
        ])
        self.assertEqual([rise_till(WEB, *arrow[:2]) for arrow in WEB[1]], [
            (0, 1), (18, 1), (0, 1), (3, 1), (0, 1),
        ])

    def test_the_only_ring(self):
        for many in range(1, 9):
            web = circle(many, [7, -3, 0, 5, -5, 1, 2, 2])
            for one, other, worth in web[1]:
                self.assertIsNone(mean_without(web, one, other))
                self.assertIsNone(rise_till(web, one, other))

    def test_no_ring(self):
        for web in NO_RINGS:
            for one, other, worth in web[1]:
                self.assertIsNone(mean_without(web, one, other))
                self.assertIsNone(rise_till(web, one, other))

    def test_on_no_ring(self):
        web = (3, ((0, 0, 7), (0, 1, -BIG), (1, 2, 5), (2, 1, 6)))
        self.assertEqual(mean_without(web, 0, 1), (11, 2))
        self.assertEqual(rise_till(web, 0, 1), (0, 1))

    def test_alike_means_need_no_rise(self):
        web = (2, ((0, 0, 3), (0, 1, 1), (1, 0, 5), (1, 1, 3)))
        for one, other, worth in web[1]:
            self.assertEqual(mean_without(web, one, other), (3, 1))
            self.assertEqual(rise_till(web, one, other), (0, 1))

    def test_a_fraction(self):
        web = (3, ((0, 0, 1), (1, 2, 4), (2, 1, 5), (2, 2, 3)))
        self.assertEqual(mean_without(web, 0, 0), (3, 1))
        self.assertEqual(rise_till(web, 0, 0), (2, 1))
        web = (3, ((0, 0, 1), (1, 2, 4), (2, 1, 5)))
        self.assertEqual(mean_without(web, 0, 0), (9, 2))
        self.assertEqual(rise_till(web, 0, 0), (7, 2))

    def test_made_webs(self):
        kinds = set()
        for web in chosen_webs(431, 40):
            for one, other, worth in web[1]:
                without = slow_without(web, one, other)
                self.assertEqual(mean_without(web, one, other), as_pair(without))
                told = rise_till(web, one, other)
                self.assertIs(told is None, without is None)
                if told is None:
                    continue
                self.assertTrue(is_pair(told), told)
                rise = Fraction(*told)
                kinds.add((rise == 0, one == other))
                self.assertGreaterEqual(rise, 0)
                for more in (0, STEP, 1, BIG):
                    self.assertEqual(slow_least(web, one, other, rise + more), without)
                if rise > 0:
                    self.assertLess(slow_least(web, one, other, rise - STEP), without)
        self.assertEqual(len(kinds), 4)


class ScaledWeb(unittest.TestCase):
    def test_ordinary(self):
        self.assertEqual(scaled_web(WEB, 1, 0), WEB)
        self.assertEqual(scaled_web(WEB, 2, -1), (3, ((0, 1, 9), (1, 2, -7), (2, 0, 1), (2, 1, 3), (2, 2, 13))))
        for by, more in ((10 ** 6, 10 ** 12), (10 ** 6, -(10 ** 12)), (1, 10 ** 12), (1, -(10 ** 12))):
            self.assertEqual(scaled_web(WEB, by, more), changed_worths(WEB, lambda worth: worth * by + more))

    def test_without_arrows(self):
        self.assertEqual(scaled_web((5, ()), 10 ** 6, 10 ** 12), (5, ()))
        self.assertIs(refusal(scaled_web, (5, ()), 0, 0), NoNumber)

    def test_no_numbers(self):
        great = (1, ((0, 0, BIG),))
        for web in (WEB, great, (2, ())):
            for thing in no_whole_within(1, 10 ** 6):
                self.assertIs(refusal(scaled_web, web, thing, 1), NoNumber, thing)
                self.assertIs(refusal(scaled_web, web, thing, None), NoNumber, thing)
            for thing in no_whole_within(-(10 ** 12), 10 ** 12):
                self.assertIs(refusal(scaled_web, web, 10 ** 6, thing), NoNumber, thing)

    def test_too_great(self):
        self.great((1, ((0, 0, BIG),)), 1, 0, None)
        self.great((1, ((0, 0, BIG),)), 1, 1, BIG + 1)
        self.great((1, ((0, 0, -BIG),)), 1, -1, BIG + 1)
        self.great((1, ((0, 0, -BIG),)), 1, 1, None)
        self.great((1, ((0, 0, BIG - 10 ** 12),)), 1, 10 ** 12, None)
        self.great((1, ((0, 0, 10 ** 24),)), 10 ** 6, 0, None)
        self.great((1, ((0, 0, 10 ** 24),)), 10 ** 6, 1, BIG + 1)
        self.great((1, ((0, 0, -(10 ** 24)),)), 10 ** 6, -1, BIG + 1)
        self.great((2, ((0, 0, BIG), (0, 1, -BIG), (1, 1, 5))), 2, 3, 2 * BIG + 3)
        self.great((2, ((0, 0, BIG), (0, 1, -BIG), (1, 1, 5))), 2, -3, 2 * BIG + 3)
        self.great((1, ((0, 0, -BIG),)), 10 ** 6, -(10 ** 12), 10 ** 36 + 10 ** 12)

    def great(self, web, by, more, most):
        error = raised(lambda: scaled_web(web, by, more))
        if most is None:
            self.assertIsNone(error)
            self.assertIs(web_good(scaled_web(web, by, more)), True)
        else:
            self.assertIs(type(error), TooGreat)
            self.assertEqual(vars(error), {"many": most, "most": BIG})

    def test_means(self):
        for web in made_webs(441, 60, most=8, worth=10 ** 20):
            told = scaled_web(web, 999, -7)
            self.assertIs(web_good(told), True)
            for mean in (least_mean, greatest_mean):
                if mean(web) is not None:
                    self.assertEqual(Fraction(*mean(told)), 999 * Fraction(*mean(web)) - 7)


class ShiftedWeb(unittest.TestCase):
    def test_ordinary(self):
        self.assertEqual(shifted_web(WEB, (0, 0, 0)), WEB)
        told = shifted_web(WEB, (10, 200, -3000))
        self.assertEqual(told, (3, ((0, 1, -185), (1, 2, 3197), (2, 0, -3009), (2, 1, -3198), (2, 2, 7))))
        most = 10 ** 12
        self.assertEqual(shifted_web((2, ((0, 1, 1), (1, 0, 2))), (most, -most)), (
            2, ((0, 1, 2 * most + 1), (1, 0, 2 - 2 * most)),
        ))

    def test_no_numbers(self):
        good = (1, 2, 3)
        bent = [put(good, at, thing) for at in range(3) for thing in no_whole_within(-(10 ** 12), 10 ** 12)]
        bent.extend([good[:2], good + (4,), (), list(good), {0: 1, 1: 2, 2: 3}, (good,), "123"])
        for web in (WEB, (3, ((0, 1, BIG), (1, 0, -BIG))), (3, ())):
            for thing in bent + [thing for thing in odd_things() if thing != (0, 1, 5)]:
                self.assertIs(refusal(shifted_web, web, thing), NoNumber, thing)

    def test_too_great(self):
        for worth, numbers, most in (
            (BIG, (1, 1), None), (BIG, (0, 1), None), (BIG, (1, 0), BIG + 1), (-BIG, (0, 1), BIG + 1),
            (-BIG, (1, 0), None), (BIG - 2 * 10 ** 12, (10 ** 12, -(10 ** 12)), None),
            (BIG - 2 * 10 ** 12 + 1, (10 ** 12, -(10 ** 12)), BIG + 1),
        ):
            web = (2, ((0, 0, 3), (0, 1, worth)))
            error = raised(lambda: shifted_web(web, numbers))
            if most is None:
                self.assertIsNone(error)
                self.assertEqual(shifted_web(web, numbers)[1][1][2], worth + numbers[0] - numbers[1])
            else:
                self.assertIs(type(error), TooGreat)
                self.assertEqual(vars(error), {"many": most, "most": BIG})
        error = raised(lambda: shifted_web((2, ((0, 1, BIG), (1, 0, -BIG))), (7, -7)))
        self.assertEqual(vars(error), {"many": BIG + 14, "most": BIG})

    def test_without_arrows(self):
        self.assertEqual(shifted_web((2, ()), (10 ** 12, -(10 ** 12))), (2, ()))


class So(unittest.TestCase):
    """8.5"""

    def test_shifted(self):
        source = random.Random(451)
        for web in made_webs(452, 60):
            numbers = tuple(source.randint(-(10 ** 12), 10 ** 12) for place in range(web[0]))
            told = shifted_web(web, numbers)
            self.assertIs(web_good(told), True)
            self.assertEqual(rings_of(told), rings_of(web))
            for ring in rings_of(web):
                self.assertEqual(worth_gone(told, ring + ring[:1]), worth_gone(web, ring + ring[:1]))
            self.assertEqual(least_mean(told), least_mean(web))

    def test_falls_and_rises_of_an_arrow(self):
        for web in made_webs(453, 25, most=8) + made_webs(454, 25, most=8, arrows=10):
            # Times 840 and 2 all falls and rises are whole numbers, and there is some space between them.
            web = scaled_web(web, 1680, 0)
            least = least_mean(web)
            for one, other, worth in web[1]:
                fall, without, till = (ask(web, one, other) for ask in QUESTIONS)
                if fall is not None:
                    self.assertEqual(fall[1], 1)
                    self.assertEqual(least_mean(with_arrow(web, one, other, worth - fall[0])), least)
                    less = least_mean(with_arrow(web, one, other, worth - fall[0] - 1))
                    self.assertLess(Fraction(*less), Fraction(*least))
                if till is not None:
                    self.assertEqual(till[1], 1)
                    for more in (0, 1, 10 ** 20):
                        self.assertEqual(least_mean(with_arrow(web, one, other, worth + till[0] + more)), without)
                if till is not None and till[0] > 0:
                    less = least_mean(with_arrow(web, one, other, worth + till[0] - 1))
                    self.assertLess(Fraction(*less), Fraction(*without))
                    self.assertGreaterEqual(Fraction(*less), Fraction(*least))


if __name__ == "__main__":
    unittest.main()
