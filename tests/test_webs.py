"""1.1 to 1.3: webs, their arrows and groups."""

import copy
import unittest

from material import BIG, is_whole, made_webs, no_places, odd_things, raised, turned, worth_table
from meanrings.errors import NoPlace, NoWeb
from meanrings.webs import arrows_from, arrows_to, groups_of, turned_web, web_good, web_of, worth_of

TRIANGLE = (3, ((0, 1, 5), (1, 2, -3), (2, 0, 1), (2, 2, 7)))
PAIRS = [(one, other) for one in range(8) for other in range(8)]


def many_arrows(count):
    return [(one, other, one - other) for one, other in PAIRS[:count]]


class WebGood(unittest.TestCase):
    def good(self, thing):
        self.assertIs(web_good(thing), True, thing)

    def bad(self, thing):
        self.assertIs(web_good(thing), False, thing)

    def test_ordinary_webs(self):
        self.good(TRIANGLE)
        for web in made_webs(1, 100, most=8):
            self.good(web)

    def test_how_many_places(self):
        for many in range(1, 9):
            self.good((many, ()))
            self.good((many, ((many - 1, many - 1, 0),)))
            self.bad((many, ((many, 0, 0),)))
            self.bad((many, ((0, many, 0),)))
        for many in (0, 9, -1, 10 ** 40, 10 ** 99):
            self.bad((many, ()))

    def test_places_below_none(self):
        self.bad((3, ((-1, 0, 0),)))
        self.bad((3, ((0, -1, 0),)))

    def test_how_many_arrows(self):
        self.good((8, tuple(many_arrows(24))))
        self.bad((8, tuple(many_arrows(25))))

    def test_how_great_worths_are(self):
        for worth in (BIG, -BIG, 0):
            self.good((1, ((0, 0, worth),)))
        for worth in (BIG + 1, -BIG - 1, 10 ** 99, -(10 ** 99)):
            self.bad((1, ((0, 0, worth),)))

    def test_arrows_rise(self):
        self.bad((2, ((0, 1, 0), (0, 0, 0))))
        self.bad((2, ((1, 0, 0), (0, 1, 0))))
        self.bad((2, ((0, 0, 0), (1, 1, 0), (0, 1, 0))))
        self.good((2, ((0, 0, 9), (0, 1, -9), (1, 0, -10))))

    def test_no_two_arrows_with_both_places_alike(self):
        self.bad((2, ((0, 1, 4), (0, 1, 4))))
        self.bad((2, ((0, 1, 4), (0, 1, 5))))
        self.bad((2, ((0, 0, 0), (0, 1, 4), (0, 1, 5))))
        self.bad((2, ((0, 1, 5), (0, 1, 4))))

    def test_truths_are_no_whole_numbers(self):
        self.bad((True, ()))
        self.bad((2, ((True, 0, 0),)))
        self.bad((2, ((False, 1, 0),)))
        self.bad((2, ((0, True, 0),)))
        self.bad((2, ((0, 1, True),)))
        self.bad((2, ((0, 1, False),)))

    def test_lists_are_no_tuples(self):
        self.bad([1, ()])
        self.bad((1, []))
        self.bad((2, [(0, 1, 5)]))
        self.bad((2, ([0, 1, 5],)))
        self.bad({1: ()})

    def test_lengths(self):
        for thing in [(), (1,), (1, (), ()), (2, ((0, 1),)), (2, ((0, 1, 5, 5),)), (2, ((),))]:
            self.bad(thing)

    def test_whatever_is_handed_in(self):
        for thing in odd_things():
            if thing == (1, ()):
                continue
            self.bad(thing)

    def test_whatever_within_a_web(self):
        for thing in odd_things():
            if not (is_whole(thing) and 1 <= thing <= 8):
                self.bad((thing, ()))
            if thing != () and thing != ((0, 1, 5),):
                self.bad((2, thing))
            if thing != (0, 1, 5):
                self.bad((2, (thing,)))
                self.bad((2, ((0, 0, 1), thing)))

    def test_whatever_within_an_arrow(self):
        for thing in odd_things():
            if not (is_whole(thing) and 0 <= thing < 2):
                self.bad((2, ((thing, 0, 1),)))
                self.bad((2, ((0, thing, 1),)))
            if not (is_whole(thing) and -BIG <= thing <= BIG):
                self.bad((2, ((0, 1, thing),)))


class WebOf(unittest.TestCase):
    def number(self, many, things):
        error = raised(lambda: web_of(many, things))
        self.assertIs(type(error), NoWeb, things)
        self.assertIs(type(error.number), int)
        return error.number

    def test_ordinary(self):
        self.assertEqual(web_of(3, [(2, 2, 7), (0, 1, 5), (2, 0, 1), (1, 2, -3)]), TRIANGLE)
        self.assertEqual(web_of(1, []), (1, ()))
        self.assertEqual(web_of(8, []), (8, ()))
        self.assertEqual(web_of(1, [(0, 0, BIG)]), (1, ((0, 0, BIG),)))
        self.assertEqual(web_of(1, [(0, 0, -BIG)]), (1, ((0, 0, -BIG),)))

    def test_any_order(self):
        for web in made_webs(2, 60, most=8):
            self.assertEqual(web_of(web[0], list(reversed(web[1]))), web)
            self.assertEqual(web_of(web[0], sorted(web[1], key=lambda arrow: arrow[2])), web)
            self.assertIs(web_good(web_of(web[0], list(web[1]))), True)

    def test_24_and_25_arrows(self):
        self.assertEqual(web_of(8, many_arrows(24)), (8, tuple(many_arrows(24))))
        self.assertEqual(self.number(8, many_arrows(25)), 24)
        self.assertEqual(self.number(8, many_arrows(30)), 24)
        self.assertEqual(self.number(8, many_arrows(24) + [None]), 24)

    def test_how_many_places(self):
        for many in (0, 9, -1, 10 ** 99, True, False, None, "3", (3,), [3], {3: 3}):
            self.assertEqual(self.number(many, []), -1)
        for thing in odd_things():
            if not (is_whole(thing) and 1 <= thing <= 8):
                self.assertEqual(self.number(thing, [(0, 0, 0)]), -1)

    def test_how_many_places_goes_first(self):
        self.assertEqual(self.number(0, [None]), -1)
        self.assertEqual(self.number(9, many_arrows(25)), -1)

    def test_things_that_are_no_arrows(self):
        for thing in odd_things():
            if thing == (0, 1, 5):
                continue
            self.assertEqual(self.number(2, [thing]), 0)
            self.assertEqual(self.number(2, [(0, 0, 1), (1, 1, 1), thing, (0, 1, 1)]), 2)

    def test_things_within_arrows(self):
        for thing in odd_things():
            if not (is_whole(thing) and 0 <= thing < 2):
                self.assertEqual(self.number(2, [(0, 0, 1), (thing, 1, 1)]), 1)
                self.assertEqual(self.number(2, [(0, 0, 1), (1, thing, 1)]), 1)
            if not (is_whole(thing) and -BIG <= thing <= BIG):
                self.assertEqual(self.number(2, [(0, 0, 1), (1, 0, thing)]), 1)

    def test_worths_beyond(self):
        self.assertEqual(self.number(2, [(0, 1, BIG), (1, 0, BIG + 1)]), 1)
        self.assertEqual(self.number(2, [(0, 1, -BIG), (1, 0, -BIG - 1)]), 1)

    def test_both_places_alike(self):
        self.assertEqual(self.number(2, [(0, 1, 5), (0, 1, 5)]), 1)
        self.assertEqual(self.number(2, [(0, 1, 5), (1, 0, 5), (0, 1, 4)]), 2)
        self.assertEqual(web_of(2, [(0, 1, 5), (1, 0, 5)]), (2, ((0, 1, 5), (1, 0, 5))))

    def test_the_first_of_several_is_told(self):
        self.assertEqual(self.number(2, [(0, 1, 5), (0, 1, 5), None]), 1)
        self.assertEqual(self.number(2, [(0, 1, 5), None, (0, 1, 5)]), 1)
        self.assertEqual(self.number(2, [(0, 5, 5), (0, 5, 5)]), 0)
        things = many_arrows(30)
        things[20] = (0, 0, BIG + 1)
        self.assertEqual(self.number(8, things), 20)
        things[10] = things[9]
        self.assertEqual(self.number(8, things), 10)

    def test_the_list_stays(self):
        for things in ([(1, 0, 5), (0, 1, 2), (0, 0, 3)], [(1, 0, 5), [0, {1: [2]}], None], []):
            kept = copy.deepcopy(things)
            raised(lambda: web_of(2, things))
            self.assertEqual(things, kept)

    def test_the_web_does_not_hang_on_the_list(self):
        things = [(1, 0, 5), (0, 1, 2)]
        web = web_of(2, things)
        things.clear()
        self.assertEqual(web, (2, ((0, 1, 2), (1, 0, 5))))


class Arrows(unittest.TestCase):
    def test_arrows_of_a_place(self):
        self.assertEqual(arrows_from(TRIANGLE, 2), [(2, 0, 1), (2, 2, 7)])
        self.assertEqual(arrows_to(TRIANGLE, 2), [(1, 2, -3), (2, 2, 7)])
        self.assertEqual(arrows_from((2, ((0, 1, 5),)), 1), [])
        self.assertEqual(arrows_to((2, ((0, 1, 5),)), 0), [])
        self.assertEqual(arrows_from((1, ()), 0), [])

    def test_arrows_of_made_webs(self):
        for web in made_webs(3, 40, most=8):
            for place in range(web[0]):
                self.assertEqual(arrows_from(web, place), [arrow for arrow in web[1] if arrow[0] == place])
                self.assertEqual(arrows_to(web, place), [arrow for arrow in web[1] if arrow[1] == place])

    def test_worth_of(self):
        for web in made_webs(4, 40, most=8):
            for one in range(web[0]):
                for other in range(web[0]):
                    self.assertEqual(worth_of(web, one, other), worth_table(web).get((one, other)))
        self.assertEqual(worth_of((1, ((0, 0, 0),)), 0, 0), 0)
        self.assertIsNone(worth_of((1, ()), 0, 0))
        self.assertEqual(worth_of(TRIANGLE, 1, 2), -3)
        self.assertIsNone(worth_of(TRIANGLE, 2, 1))

    def test_no_place(self):
        for web in ((1, ((0, 0, 1),)), TRIANGLE, (8, ())):
            for thing in no_places(web[0]) + [web[0]]:
                for act in (
                    lambda: arrows_from(web, thing), lambda: arrows_to(web, thing),
                    lambda: worth_of(web, thing, 0), lambda: worth_of(web, 0, thing),
                    lambda: worth_of(web, thing, thing),
                ):
                    self.assertIs(type(raised(act)), NoPlace, thing)

    def test_lists_are_the_askers_own(self):
        for ask in (lambda: arrows_from(TRIANGLE, 2), lambda: arrows_to(TRIANGLE, 2), lambda: groups_of(TRIANGLE)):
            told = ask()
            self.assertIs(type(told), list)
            kept = list(told)
            told.clear()
            self.assertEqual(ask(), kept)


class Turned(unittest.TestCase):
    def test_turned_web(self):
        self.assertEqual(turned_web(TRIANGLE), (3, ((0, 2, 1), (1, 0, 5), (2, 1, -3), (2, 2, 7))))
        self.assertEqual(turned_web((4, ())), (4, ()))

    def test_made_webs(self):
        for web in made_webs(5, 60, most=8):
            self.assertEqual(turned_web(web), turned(web))
            self.assertIs(web_good(turned_web(web)), True)
            self.assertEqual(turned_web(turned_web(web)), web)


class Groups(unittest.TestCase):
    def slow_groups(self, web):
        reach = {(place, place) for place in range(web[0])} | set(worth_table(web))
        for between in range(web[0]):
            for one in range(web[0]):
                for other in range(web[0]):
                    if (one, between) in reach and (between, other) in reach:
                        reach.add((one, other))
        groups = {
            tuple(q for q in range(web[0]) if (p, q) in reach and (q, p) in reach) for p in range(web[0])
        }
        return sorted(groups)

    def test_ordinary(self):
        self.assertEqual(groups_of(TRIANGLE), [(0, 1, 2)])
        self.assertEqual(groups_of((3, ())), [(0,), (1,), (2,)])
        self.assertEqual(groups_of((1, ((0, 0, 5),))), [(0,)])
        self.assertEqual(groups_of((2, ((0, 1, 5),))), [(0,), (1,)])
        self.assertEqual(groups_of((4, ((0, 3, 1), (1, 2, 1), (2, 1, 1), (3, 0, 1)))), [(0, 3), (1, 2)])
        self.assertEqual(groups_of((4, ((0, 1, 1), (1, 3, 1), (2, 2, 1), (3, 1, 1)))), [(0,), (1, 3), (2,)])

    def test_made_webs(self):
        for most in (4, 8, 12, 24):
            for web in made_webs(6 + most, 60, most=8, arrows=most):
                told = groups_of(web)
                self.assertEqual(told, self.slow_groups(web))
                self.assertTrue(all(type(group) is tuple for group in told))


if __name__ == "__main__":
    unittest.main()
