"""2.1 to 2.3 and 2.5: ways and their least worths."""

import copy
import itertools
import unittest

from material import (
    BIG, circle, made_webs, no_places, no_steps, odd_things, raised, slow_least, slow_means, slow_rows, slow_ways,
    turned, worth_gone,
)
from meanrings.errors import NoArrow, NoNumber, NoPlace
from meanrings.ways import first_way, least_upto, least_way, way_good, way_table, way_worth

FAR = 10 ** 12
WEB = (4, ((0, 1, 5), (1, 2, -3), (2, 0, 1), (2, 1, 2), (2, 2, 7)))


def slow_upto(web, one, other, k):
    return min([row[other] for row in slow_rows(web, one, k) if other in row], default=None)


def slow_far(web, place, k):
    """The row behind k arrows of a web of one group, by the round into which its rows come."""
    rows = [{place: 0}]
    seen = {}
    while True:
        row, base = rows[-1], min(rows[-1].values())
        shape = tuple(sorted((at, row[at] - base) for at in row))
        if shape in seen:
            break
        seen[shape] = (len(rows) - 1, base)
        rows.append(slow_rows_on(web, row))
        if len(rows) > k + 1:
            return rows[k]
    start, low = seen[shape]
    lap, more = len(rows) - 1 - start, base - low
    laps, left = divmod(k - start, lap)
    return {at: worth + laps * more for at, worth in rows[start + left].items()}


def slow_rows_on(web, row):
    sums = [(other, row[one] + worth) for one, other, worth in web[1] if one in row]
    return {other: min(worth for at, worth in sums if at == other) for other, worth in sums}


def one_group(web):
    rows = [slow_rows(web, place, web[0]) for place in range(web[0])]
    return all(any(other in row for row in rows[one]) for one in range(web[0]) for other in range(web[0]))


class WayGood(unittest.TestCase):
    def test_ordinary(self):
        for way in [(0,), (3,), (0, 1), (2, 2), (2, 2, 2, 2), (0, 1, 2, 1, 2, 0, 1), (1, 2, 2, 0)]:
            self.assertIs(way_good(WEB, way), True, way)

    def test_no_ways(self):
        for thing in [
            (), (4,), (-1,), (0, 0), (1, 0), (0, 2), (0, 1, 3), (0, 1, 2, 3), [0, 1], [0], "01", "0", {0: 1}, 0, None,
            (True,), (False,), (0, True), (False, 1), (0, 1, None), (0, [1]), (0, (1,)), ((0, 1),), (0, "1"),
            (10 ** 99,),
        ]:
            self.assertIs(way_good(WEB, thing), False, thing)
            self.assertIs(type(raised(lambda: way_worth(WEB, thing))), NoArrow, thing)

    def test_whatever(self):
        for thing in odd_things():
            kept = copy.deepcopy(thing)
            good = thing == (0,) and type(thing[0]) is int
            self.assertIs(way_good((2, ()), thing), good, thing)
            self.assertIs(type(raised(lambda: way_worth((2, ()), thing))), type(None) if good else NoArrow, thing)
            self.assertEqual(repr(thing), repr(kept))

    def test_all_tuples_of_small_webs(self):
        for web in made_webs(21, 30, most=4):
            for k in range(0, 4):
                ways = set(slow_ways(web, k))
                for thing in itertools.product(range(web[0]), repeat=k + 1):
                    self.assertIs(way_good(web, thing), thing in ways)


class WayWorth(unittest.TestCase):
    def test_ordinary(self):
        self.assertEqual(way_worth(WEB, (3,)), 0)
        self.assertIs(type(way_worth(WEB, (3,))), int)
        self.assertEqual(way_worth(WEB, (0, 1, 2, 1, 2, 2, 2, 0)), 5 - 3 + 2 - 3 + 7 + 7 + 1)

    def test_made_webs(self):
        for web in made_webs(22, 30, most=4):
            for way in slow_ways(web, 4)[:300]:
                self.assertEqual(way_worth(web, way), worth_gone(web, way))

    def test_long_and_great(self):
        self.assertEqual(way_worth((1, ((0, 0, -BIG),)), (0,) * 501), -500 * BIG)


class LeastWay(unittest.TestCase):
    def test_no_arrow(self):
        self.assertEqual(least_way(WEB, 3, 3, 0), 0)
        self.assertIsNone(least_way(WEB, 0, 1, 0))
        self.assertEqual(least_way((1, ((0, 0, -5),)), 0, 0, 0), 0)

    def test_ordinary(self):
        self.assertEqual(least_way(WEB, 0, 2, 2), 2)
        self.assertIsNone(least_way(WEB, 0, 2, 1))
        self.assertIsNone(least_way(WEB, 0, 3, 5))
        self.assertEqual(least_way(WEB, 0, 2, 3), 9)
        self.assertEqual(least_way(WEB, 0, 2, 4), 1)
        self.assertEqual(least_way(WEB, 2, 2, 1), 7)

    def test_all_ways_gone_through(self):
        for web in made_webs(23, 25, most=4):
            for k in range(0, 5):
                for one in range(web[0]):
                    for other in range(web[0]):
                        self.assertEqual(least_way(web, one, other, k), slow_least(web, one, other, k)[0])

    def test_arrow_by_arrow(self):
        for web in made_webs(24, 12, least=2, most=8, worth=BIG):
            rows = slow_rows(web, 1, 130)
            for k in (6, 7, 8, 31, 63, 64, 65, 100, 127, 130):
                for other in range(web[0]):
                    self.assertEqual(least_way(web, 1, other, k), rows[k].get(other))

    def test_far(self):
        loop = (1, ((0, 0, -3),))
        pair = (2, ((0, 1, 4), (1, 0, -9)))
        self.assertEqual(least_way(loop, 0, 0, FAR), -3 * FAR)
        self.assertEqual(least_way((1, ((0, 0, BIG),)), 0, 0, FAR), BIG * FAR)
        self.assertEqual(least_way(pair, 0, 0, FAR), -5 * (FAR // 2))
        self.assertIsNone(least_way(pair, 0, 1, FAR))
        self.assertEqual(least_way(pair, 0, 1, FAR - 1), -5 * (FAR // 2 - 1) + 4)
        self.assertIsNone(least_way((2, ((0, 1, 4),)), 0, 1, FAR))

    def test_far_by_rounds(self):
        webs = [web for web in made_webs(25, 60, least=2, most=6, arrows=16) if one_group(web)]
        self.assertGreater(len(webs), 15)
        for web in webs:
            for k in (FAR, FAR - 1, 123456789012, 2 ** 39 - 1, 10 ** 6 + 3):
                row = slow_far(web, 0, k)
                for other in range(web[0]):
                    self.assertEqual(least_way(web, 0, other, k), row.get(other))


class LeastUpto(unittest.TestCase):
    def test_no_arrow(self):
        self.assertEqual(least_upto(WEB, 3, 3, 0), 0)
        self.assertIsNone(least_upto(WEB, 0, 1, 0))
        self.assertEqual(least_upto((1, ((0, 0, -5),)), 0, 0, 0), 0)

    def test_ordinary(self):
        self.assertEqual(least_upto((1, ((0, 0, -5),)), 0, 0, 3), -15)
        self.assertEqual(least_upto((1, ((0, 0, 5),)), 0, 0, 3), 0)
        self.assertEqual(least_upto((1, ()), 0, 0, FAR), 0)
        self.assertIsNone(least_upto(WEB, 0, 2, 1))
        self.assertEqual(least_upto(WEB, 0, 2, 3), 2)
        self.assertIsNone(least_upto(WEB, 0, 3, FAR))

    def test_arrow_by_arrow(self):
        for web in made_webs(26, 40, least=2, most=8):
            for k in (0, 1, 2, 3, 4, 7, 8, 9, 33):
                for one, other in ((0, 0), (0, 1), (1, 0), (web[0] - 1, 0)):
                    self.assertEqual(least_upto(web, one, other, k), slow_upto(web, one, other, k))

    def test_far(self):
        pair = (2, ((0, 1, 4), (1, 0, -9)))
        self.assertEqual(least_upto(pair, 0, 0, FAR), -5 * (FAR // 2))
        self.assertEqual(least_upto(pair, 0, 1, FAR), -5 * (FAR // 2 - 1) + 4)
        self.assertEqual(least_upto(pair, 0, 1, FAR - 1), -5 * (FAR // 2 - 1) + 4)
        self.assertEqual(least_upto((1, ((0, 0, -BIG),)), 0, 0, FAR), -BIG * FAR)


class Refusals(unittest.TestCase):
    asks = [(least_way, FAR), (least_upto, FAR), (first_way, 40)]

    def test_first_place(self):
        for ask, most in self.asks:
            for thing in no_places(4) + [4]:
                for other, k in ((0, 0), (None, 0), (0, None), ([], "k")):
                    self.assertIs(type(raised(lambda: ask(WEB, thing, other, k))), NoPlace, thing)

    def test_second_place(self):
        for ask, most in self.asks:
            for thing in no_places(4) + [4]:
                for k in (0, -1, most + 1, None, True):
                    self.assertIs(type(raised(lambda: ask(WEB, 0, thing, k))), NoPlace, thing)

    def test_number(self):
        for ask, most in self.asks:
            for thing in no_steps(most):
                self.assertIs(type(raised(lambda: ask(WEB, 0, 1, thing))), NoNumber, thing)
            for k in (0, 1, most):
                ask(WEB, 0, 1, k)

    def test_number_of_a_table(self):
        for thing in no_steps(FAR):
            self.assertIs(type(raised(lambda: way_table(WEB, thing))), NoNumber, thing)
        way_table(WEB, FAR)


class WayTable(unittest.TestCase):
    def test_ordinary(self):
        self.assertEqual(way_table((2, ((0, 0, 5),)), 0), [[0, None], [None, 0]])
        self.assertEqual(way_table((2, ((0, 1, 5), (1, 1, -2))), 1), [[None, 5], [None, -2]])
        self.assertEqual(way_table((2, ((0, 1, 5), (1, 1, -2))), 2), [[None, 3], [None, -4]])
        self.assertEqual(way_table((1, ()), FAR), [[None]])

    def test_made_webs(self):
        for web in made_webs(27, 12, most=8):
            for k in (0, 1, 2, 5, 64, 77, FAR):
                table = way_table(web, k)
                self.assertEqual([len(row) for row in table], [web[0]] * web[0])
                for one in range(web[0]):
                    for other in range(web[0]):
                        self.assertEqual(table[one][other], least_way(web, one, other, k))

    def test_slow_rows(self):
        for web in made_webs(28, 30, most=8):
            for k in (1, 3, 10):
                rows = [slow_rows(web, one, k)[k] for one in range(web[0])]
                self.assertEqual(way_table(web, k), [[row.get(at) for at in range(web[0])] for row in rows])

    def test_lists_are_the_askers_own(self):
        for k in (0, 1, 2, 9):
            told = way_table(WEB, k)
            kept = copy.deepcopy(told)
            self.assertEqual(len({id(row) for row in told}), 4)
            for row in told:
                self.assertIs(type(row), list)
                row.append("x")
                row[0] = "y"
            told.append([])
            self.assertEqual(way_table(WEB, k), kept)


class FirstWay(unittest.TestCase):
    def forward(self, web, one, k):
        """The first ways of the least worth by where they end, built from their beginning."""
        best = {one: (0, (one,))}
        for step in range(k):
            found = {}
            for at, other, worth in web[1]:
                if at in best:
                    now = (best[at][0] + worth, best[at][1] + (other,))
                    found[other] = min(found.get(other, now), now)
            best = found
        return best

    def test_ordinary(self):
        self.assertEqual(first_way(WEB, 3, 3, 0), (3,))
        self.assertIsNone(first_way(WEB, 0, 1, 0))
        self.assertIsNone(first_way(WEB, 0, 3, 7))
        self.assertEqual(first_way(WEB, 0, 2, 4), (0, 1, 2, 1, 2))

    def test_several_of_one_worth(self):
        web = (4, ((0, 1, 1), (0, 2, 2), (1, 3, 2), (2, 3, 1)))
        self.assertEqual(first_way(web, 0, 3, 2), (0, 1, 3))
        web = (4, ((0, 1, 2), (0, 2, 2), (1, 3, 2), (2, 3, 1)))
        self.assertEqual(first_way(web, 0, 3, 2), (0, 2, 3))
        full = (4, tuple((one, other, 7) for one in range(4) for other in range(4)))
        self.assertEqual(first_way(full, 3, 2, 40), (3,) + (0,) * 39 + (2,))

    def test_all_ways_gone_through(self):
        for web in made_webs(29, 40, most=4, worth=1):
            for k in range(0, 5):
                for one in range(web[0]):
                    for other in range(web[0]):
                        self.assertEqual(first_way(web, one, other, k), slow_least(web, one, other, k)[1])

    def test_forty_arrows(self):
        for web in made_webs(30, 40, least=2, most=8, worth=1):
            for k in (17, 39, 40):
                best = self.forward(web, 1, k)
                for other in range(web[0]):
                    told = first_way(web, 1, other, k)
                    self.assertEqual(told, best.get(other, (None, None))[1])
                    if told is not None:
                        self.assertIs(type(told), tuple)
                        self.assertEqual(way_worth(web, told), least_way(web, 1, other, k))

    def test_great_worths(self):
        for web in made_webs(31, 20, least=2, most=8, worth=BIG):
            best = self.forward(web, 0, 40)
            for other in range(web[0]):
                self.assertEqual(first_way(web, 0, other, 40), best.get(other, (None, None))[1])


class So(unittest.TestCase):
    """2.5"""

    def test_put_together(self):
        for web in made_webs(32, 12, most=8):
            places = range(web[0])
            for j, k in ((0, 5), (3, 4), (7, 1), (10 ** 6, 999), (FAR - 1000, 1000)):
                first, second, both = way_table(web, j), way_table(web, k), way_table(web, j + k)
                for one in places:
                    for other in places:
                        sums = [
                            first[one][at] + second[at][other] for at in places
                            if first[one][at] is not None and second[at][other] is not None
                        ]
                        self.assertEqual(both[one][other], min(sums, default=None))

    def test_turned_about(self):
        for web in made_webs(33, 12, most=8):
            for k in (0, 1, 6, 41, FAR):
                back = way_table(turned(web), k)
                self.assertEqual(way_table(web, k), [list(row) for row in zip(*back)])
                self.assertEqual(least_upto(web, 0, web[0] - 1, k), least_upto(turned(web), web[0] - 1, 0, k))

    def test_upto_stays(self):
        webs = [web for web in made_webs(34, 80, most=6, worth=6, arrows=10)]
        webs = [web for web in webs if slow_means(web)[0] is None or slow_means(web)[0][0] >= 0]
        webs.append(circle(8, [3, -2, 1, 0, -4, 2, 1, -1]))
        self.assertGreater(len(webs), 30)
        for web in webs:
            for one in range(web[0]):
                for other in range(web[0]):
                    told = least_upto(web, one, other, web[0] - 1)
                    for k in (web[0], web[0] + 1, 50, FAR):
                        self.assertEqual(least_upto(web, one, other, k), told)


if __name__ == "__main__":
    unittest.main()
