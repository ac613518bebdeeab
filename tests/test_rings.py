"""1.4 and 1.5: rings."""

import copy
import itertools
import unittest

from material import as_pair, circle, made_webs, odd_things, raised, slow_mean, slow_rings, turned, worth_gone
from meanrings.errors import NoRing, TooGreat
from meanrings.webs import groups_of, ring_good, ring_mean, ring_worth, rings_of

WEB = (4, ((0, 1, 5), (1, 2, -3), (2, 0, 1), (2, 1, 2), (2, 2, 7)))


class RingGood(unittest.TestCase):
    def test_ordinary(self):
        for ring in [(0, 1, 2), (1, 2), (2,)]:
            self.assertIs(ring_good(WEB, ring), True)

    def test_no_rings(self):
        for thing in [
            (1, 2, 0), (2, 0, 1), (2, 1), (0, 2, 1), (0, 1), (0,), (1,), (3,), (4,), (-1,), (0, 1, 2, 0), (1, 2, 1, 2),
            (2, 2), (0, 1, 2, 1, 2), (1, 1), (), (0, 1, 2, 2), [0, 1, 2], [2], {2: 2}, "2", 2, (0, 1, True),
            (0, True, 2), (False, 1, 2), (0, 1, None), (0, 1, "2"), (0, 1, [2]), (0, 1, (2,)), ((0, 1, 2),),
            (0, 1, 10 ** 99),
        ]:
            self.assertIs(ring_good(WEB, thing), False, thing)

    def test_place_alone(self):
        self.assertIs(ring_good((1, ((0, 0, 5),)), (0,)), True)
        self.assertIs(ring_good((1, ()), (0,)), False)
        self.assertIs(ring_good((1, ((0, 0, 5),)), (False,)), False)
        self.assertIs(ring_good((2, ((1, 1, 5),)), (True,)), False)

    def test_whatever(self):
        for thing in odd_things():
            kept = copy.deepcopy(thing)
            self.assertIs(ring_good((3, ((0, 1, 1),)), thing), False, thing)
            self.assertEqual(repr(thing), repr(kept))

    def test_all_tuples_of_small_webs(self):
        for web in made_webs(11, 40, most=4):
            rings = slow_rings(web)
            for size in range(0, 6):
                for thing in itertools.product(range(web[0]), repeat=size):
                    self.assertIs(ring_good(web, thing), thing in rings)


class Worths(unittest.TestCase):
    def test_ordinary(self):
        self.assertEqual(ring_worth(WEB, (0, 1, 2)), 3)
        self.assertEqual(ring_worth(WEB, (1, 2)), -1)
        self.assertEqual(ring_worth(WEB, (2,)), 7)
        self.assertEqual(ring_mean(WEB, (0, 1, 2)), (1, 1))
        self.assertEqual(ring_mean(WEB, (1, 2)), (-1, 2))
        self.assertEqual(ring_mean(WEB, (2,)), (7, 1))

    def test_fractions_are_in_least_terms(self):
        self.assertEqual(ring_mean(circle(4, [0, 0, 0, 0]), (0, 1, 2, 3)), (0, 1))
        self.assertEqual(ring_mean(circle(6, [1, 1, 1, 1, 0, 0]), tuple(range(6))), (2, 3))
        self.assertEqual(ring_mean(circle(6, [-1, -1, -1, -1, 0, 0]), tuple(range(6))), (-2, 3))
        self.assertEqual(ring_mean(circle(8, [-1, -1, 0, 0, 0, 0, 0, 0]), tuple(range(8))), (-1, 4))

    def test_great_worths(self):
        web = circle(3, [10 ** 30, 10 ** 30, 10 ** 30 - 1])
        self.assertEqual(ring_worth(web, (0, 1, 2)), 3 * 10 ** 30 - 1)
        self.assertEqual(ring_mean(web, (0, 1, 2)), (3 * 10 ** 30 - 1, 3))

    def test_made_webs(self):
        for web in made_webs(12, 60, most=6, worth=30):
            for ring in slow_rings(web):
                self.assertEqual(ring_worth(web, ring), worth_gone(web, ring + ring[:1]))
                self.assertEqual(ring_mean(web, ring), as_pair(slow_mean(web, ring)))

    def test_no_ring(self):
        for thing in odd_things() + [(1, 2, 0), (2, 1), (0, 1), (1, 2, 1, 2), [1, 2], (2, 2), (True, 2)]:
            self.assertIs(type(raised(lambda: ring_worth(WEB, thing))), NoRing, thing)
            self.assertIs(type(raised(lambda: ring_mean(WEB, thing))), NoRing, thing)


class RingsOf(unittest.TestCase):
    def test_ordinary(self):
        self.assertEqual(rings_of(WEB), [(0, 1, 2), (1, 2), (2,)])
        self.assertEqual(rings_of((3, ())), [])
        self.assertEqual(rings_of((1, ((0, 0, 1),))), [(0,)])

    def test_order(self):
        web = (3, tuple((one, other, 0) for one in range(3) for other in range(3)))
        self.assertEqual(rings_of(web), [(0,), (0, 1), (0, 1, 2), (0, 2), (0, 2, 1), (1,), (1, 2), (2,)])

    def test_made_webs(self):
        for most in (8, 24):
            for web in made_webs(13 + most, 60, most=6, arrows=most):
                told = rings_of(web)
                self.assertEqual(told, slow_rings(web))
                self.assertTrue(all(ring_good(web, ring) is True for ring in told))

    def test_six_seven_eight_places(self):
        self.assertEqual(rings_of(circle(6, [1] * 6)), [tuple(range(6))])
        for many in (7, 8):
            for web in ((many, ()), circle(many, [1] * many)):
                error = raised(lambda: rings_of(web))
                self.assertIs(type(error), TooGreat)
                self.assertEqual((error.many, error.most), (many, 6))

    def test_the_list_is_the_askers_own(self):
        told = rings_of(WEB)
        told.append("x")
        self.assertEqual(rings_of(WEB), [(0, 1, 2), (1, 2), (2,)])


class So(unittest.TestCase):
    """1.5"""

    def test_a_ring_lies_in_one_group(self):
        for web in made_webs(14, 60, most=6, arrows=12):
            groups = groups_of(web)
            for ring in rings_of(web):
                self.assertEqual(len([group for group in groups if set(ring) <= set(group)]), 1)

    def test_turned_about(self):
        for web in made_webs(15, 60, most=6):
            back = sorted(ring[:1] + ring[:0:-1] for ring in rings_of(web))
            self.assertEqual(rings_of(turned(web)), back)
            for ring in rings_of(web):
                self.assertEqual(ring_worth(web, ring), ring_worth(turned(web), ring[:1] + ring[:0:-1]))

    def test_where_there_are_rings(self):
        for web in made_webs(16, 200, most=6, arrows=6):
            some = any(len(group) > 1 for group in groups_of(web)) or any(one == other for one, other, w in web[1])
            self.assertEqual(rings_of(web) != [], some)


if __name__ == "__main__":
    unittest.main()
