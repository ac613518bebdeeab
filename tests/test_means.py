"""3.1 to 3.4: the least mean."""

import copy
import unittest
from fractions import Fraction

from material import (
    BIG, as_pair, changed_worths, circle, made_webs, raised, slow_mean, slow_means, slow_rings, slow_ways, turned,
    worth_gone,
)
from meanrings.errors import TooGreat
from meanrings.means import first_least, greatest_mean, least_mean, least_ring, mean_rows, no_less
from meanrings.webs import ring_good, ring_mean

WEB = (4, ((0, 1, 5), (1, 2, -3), (2, 0, 1), (2, 1, 2), (2, 2, 7)))
NO_RINGS = [(1, ()), (8, ()), (2, ((0, 1, -5),)), (4, ((0, 1, 1), (0, 2, -3), (1, 3, 1), (2, 3, 9)))]


def chosen_webs(seed, count, most=6):
    """Webs of few and of many arrows, of small and of great worths."""
    return (
        made_webs(seed, count, most=most, arrows=8) + made_webs(seed + 1, count, most=most, worth=40)
        + made_webs(seed + 2, count, most=most, worth=1) + made_webs(seed + 3, count, most=most, worth=BIG)
    )


class Means(unittest.TestCase):
    def test_ordinary(self):
        self.assertEqual(least_mean(WEB), (-1, 2))
        self.assertEqual(greatest_mean(WEB), (7, 1))
        self.assertEqual(least_mean((1, ((0, 0, 0),))), (0, 1))
        self.assertEqual(greatest_mean((1, ((0, 0, 0),))), (0, 1))
        self.assertEqual(least_mean(circle(6, [1, 1, 1, 1, 0, 0])), (2, 3))
        self.assertEqual(greatest_mean(circle(6, [-1, -1, -1, -1, 0, 0])), (-2, 3))

    def test_without_a_ring(self):
        for web in NO_RINGS:
            self.assertIsNone(least_mean(web))
            self.assertIsNone(greatest_mean(web))
            self.assertIsNone(least_ring(web))

    def test_below_nought(self):
        web = (3, ((0, 0, -5), (0, 1, -9), (1, 2, -8), (2, 0, 1)))
        self.assertEqual(least_mean(web), (-16, 3))
        self.assertEqual(greatest_mean(web), (-5, 1))

    def test_thirty_figures(self):
        web = (2, ((0, 0, BIG), (0, 1, BIG), (1, 0, BIG - 1)))
        self.assertEqual(least_mean(web), (2 * BIG - 1, 2))
        self.assertEqual(greatest_mean(web), (BIG, 1))
        self.assertEqual(least_mean(changed_worths(web, lambda worth: -worth)), (-BIG, 1))
        self.assertEqual(least_ring(web), (0, 1))

    def test_all_rings_gone_through(self):
        for web in chosen_webs(51, 60):
            self.assertEqual((least_mean(web), greatest_mean(web)), slow_means(web))

    def test_seven_and_eight_places(self):
        for web in made_webs(55, 6, least=7, most=8, worth=50) + [circle(8, [3, 1, 4, 1, 5, 9, 2, 6])]:
            self.assertEqual((least_mean(web), greatest_mean(web)), slow_means(web))


class LeastRing(unittest.TestCase):
    def test_ordinary(self):
        self.assertEqual(least_ring(WEB), (1, 2))
        self.assertEqual(least_ring((1, ((0, 0, 5),))), (0,))

    def test_made_webs(self):
        for web in chosen_webs(61, 80, most=8):
            ring = least_ring(web)
            mean = least_mean(web)
            self.assertEqual(ring is None, mean is None)
            if ring is not None:
                self.assertIs(type(ring), tuple)
                self.assertIs(ring_good(web, ring), True)
                self.assertEqual(ring_mean(web, ring), mean)

    def test_several_rings_of_one_mean(self):
        web = (5, ((0, 1, 1), (1, 0, 3), (2, 2, 2), (3, 4, 0), (4, 3, 4)))
        self.assertIn(least_ring(web), [(0, 1), (2,), (3, 4)])


class FirstLeast(unittest.TestCase):
    def test_ordinary(self):
        self.assertEqual(first_least(WEB), (1, 2))
        for web in NO_RINGS:
            if web[0] <= 6:
                self.assertIsNone(first_least(web))

    def test_several_rings_of_one_mean(self):
        web = (5, ((0, 1, 1), (1, 0, 3), (2, 2, 2), (3, 4, 0), (4, 3, 4)))
        self.assertEqual(first_least(web), (0, 1))
        self.assertEqual(first_least((5, web[1][1:])), (2,))
        full = (4, tuple((one, other, 7) for one in range(4) for other in range(4) if one != other))
        self.assertEqual(first_least(full), (0, 1))

    def test_all_rings_gone_through(self):
        for web in chosen_webs(71, 60):
            rings = slow_rings(web)
            means = [slow_mean(web, ring) for ring in rings]
            self.assertEqual(first_least(web), rings[means.index(min(means))] if rings else None)

    def test_six_seven_eight_places(self):
        self.assertEqual(first_least(circle(6, [1] * 6)), tuple(range(6)))
        for many in (7, 8):
            for web in ((many, ()), circle(many, [1] * many)):
                error = raised(lambda: first_least(web))
                self.assertIs(type(error), TooGreat)
                self.assertEqual((error.many, error.most), (many, 6))


class MeanRows(unittest.TestCase):
    def slow_mean_rows(self, web):
        rows = []
        for k in range(web[0] + 1):
            ends = [(way[-1], worth_gone(web, way)) for way in slow_ways(web, k)]
            rows.append([min([worth for at, worth in ends if at == p], default=None) for p in range(web[0])])
        return rows

    def test_ordinary(self):
        self.assertEqual(mean_rows((1, ())), [[0], [None]])
        self.assertEqual(mean_rows((1, ((0, 0, -5),))), [[0], [-5]])
        self.assertEqual(mean_rows((2, ((0, 1, 5), (1, 1, 2)))), [[0, 0], [None, 2], [None, 4]])

    def test_all_ways_gone_through(self):
        for web in made_webs(81, 40, most=4):
            self.assertEqual(mean_rows(web), self.slow_mean_rows(web))

    def test_of_greater_webs(self):
        for web in made_webs(82, 10, least=5, most=8, arrows=12):
            self.assertEqual(mean_rows(web), self.slow_mean_rows(web))

    def test_the_formula(self):
        for web in chosen_webs(83, 40):
            rows, n = mean_rows(web), web[0]
            self.assertEqual(rows[0], [0] * n)
            steep = [
                max(Fraction(rows[n][p] - rows[k][p], n - k) for k in range(n) if rows[k][p] is not None)
                for p in range(n) if rows[n][p] is not None
            ]
            self.assertEqual(as_pair(min(steep, default=None)), slow_means(web)[0])
            self.assertEqual(steep == [], slow_rings(web) == [])

    def test_lists_are_the_askers_own(self):
        told = mean_rows(WEB)
        kept = copy.deepcopy(told)
        self.assertEqual(len(told), 5)
        for row in told:
            self.assertIs(type(row), list)
            row[0] = "x"
            row.append(1)
        told.clear()
        self.assertEqual(mean_rows(WEB), kept)
        self.assertEqual(least_mean(WEB), (-1, 2))


class NoLess(unittest.TestCase):
    def test_ordinary(self):
        self.assertIs(no_less(WEB, (-1, 2)), True)
        self.assertIs(no_less(WEB, (-1, 1)), True)
        self.assertIs(no_less(WEB, (-499, 1000)), False)
        self.assertIs(no_less(WEB, (0, 1)), False)
        self.assertIs(no_less(WEB, (10 ** 39, 1)), False)
        self.assertIs(no_less(WEB, (-(10 ** 39), 1)), True)

    def test_without_a_ring(self):
        for web in NO_RINGS:
            for bound in ((0, 1), (10 ** 39, 1), (-(10 ** 39), 1), (1, 7)):
                self.assertIs(no_less(web, bound), True)

    def test_about_the_least_mean(self):
        little = Fraction(1, 10 ** 9)
        for web in chosen_webs(91, 40):
            least = slow_means(web)[0]
            if least is not None:
                self.assertIs(no_less(web, least), True)
                self.assertIs(no_less(web, as_pair(Fraction(*least) - little)), True)
                self.assertIs(no_less(web, as_pair(Fraction(*least) + little)), False)


class So(unittest.TestCase):
    """3.4"""

    def both(self, web):
        return (least_mean(web), greatest_mean(web))

    def changed(self, means, change):
        return tuple(None if mean is None else as_pair(change(Fraction(*mean))) for mean in means)

    def test_more_by_a_number(self):
        for web in made_webs(101, 80, most=8):
            for more in (1, -7, 10 ** 20):
                told = self.both(changed_worths(web, lambda worth: worth + more))
                self.assertEqual(told, self.changed(self.both(web), lambda mean: mean + more))

    def test_taken_by_a_number(self):
        for web in made_webs(102, 80, most=8):
            for by in (1, 6, 10 ** 20):
                told = self.both(changed_worths(web, lambda worth: worth * by))
                self.assertEqual(told, self.changed(self.both(web), lambda mean: mean * by))

    def test_signs_turned(self):
        for web in made_webs(103, 80, most=8):
            told = self.both(changed_worths(web, lambda worth: -worth))
            self.assertEqual(told[::-1], self.changed(self.both(web), lambda mean: -mean))

    def test_turned_web(self):
        for web in made_webs(104, 80, most=8):
            self.assertEqual(self.both(turned(web)), self.both(web))


if __name__ == "__main__":
    unittest.main()
