"""2.4: rows that bound the ways from a place."""

import copy
import unittest

from material import BIG, is_whole, made_webs, no_places, no_steps, odd_things, raised, slow_rows, slow_ways, worth_gone
from meanrings.errors import NoNumber, NoPlace
from meanrings.ways import bounding_rows, least_way, rows_bound

WEB = (3, ((0, 1, 5), (1, 2, -3), (2, 0, 1), (2, 1, 2)))
ROWS = ((0, None, None), (None, 5, None), (None, None, 2))


def slow_bound(web, place, rows):
    """What 2.4 asks of rows that are formed as they must be."""
    if rows[0][place] is None or rows[0][place] > 0:
        return False
    for at in range(len(rows) - 1):
        for one, other, worth in web[1]:
            if rows[at][one] is not None:
                if rows[at + 1][other] is None or rows[at + 1][other] > rows[at][one] + worth:
                    return False
    return True


def bent(rows, at, place, thing):
    row = rows[at][:place] + (thing,) + rows[at][place + 1:]
    return rows[:at] + (row,) + rows[at + 1:]


class BoundingRows(unittest.TestCase):
    def test_ordinary(self):
        self.assertEqual(bounding_rows(WEB, 0, 0), ((0, None, None),))
        self.assertEqual(bounding_rows(WEB, 0, 2), ROWS)
        self.assertEqual(bounding_rows((1, ()), 0, 2), ((0,), (None,), (None,)))
        self.assertEqual(bounding_rows((1, ((0, 0, -2),)), 0, 3), ((0,), (-2,), (-4,), (-6,)))

    def test_made_webs(self):
        for web in made_webs(41, 30, most=8):
            for place in range(web[0]):
                slow = slow_rows(web, place, 12)
                told = bounding_rows(web, place, 12)
                self.assertEqual(told, tuple(tuple(row.get(at) for at in range(web[0])) for row in slow))
                self.assertEqual([least_way(web, place, at, 12) for at in range(web[0])], list(told[12]))
                self.assertTrue(type(told) is tuple and all(type(row) is tuple for row in told))

    def test_two_hundred(self):
        for web in made_webs(42, 8, least=3, most=8, worth=BIG):
            told = bounding_rows(web, 2, 200)
            self.assertEqual(len(told), 201)
            slow = slow_rows(web, 2, 200)
            self.assertEqual(told, tuple(tuple(row.get(at) for at in range(web[0])) for row in slow))
            self.assertIs(rows_bound(web, 2, told), True)

    def test_refusals(self):
        for thing in no_places(3) + [3]:
            for k in (0, -1, 201, None):
                self.assertIs(type(raised(lambda: bounding_rows(WEB, thing, k))), NoPlace, thing)
        for thing in no_steps(200):
            self.assertIs(type(raised(lambda: bounding_rows(WEB, 0, thing))), NoNumber, thing)


class RowsBound(unittest.TestCase):
    def good(self, thing, place=0, web=WEB):
        self.assertIs(rows_bound(web, place, thing), True, thing)

    def bad(self, thing, place=0, web=WEB):
        self.assertIs(rows_bound(web, place, thing), False, thing)

    def test_ordinary(self):
        self.good(ROWS)
        self.good(ROWS[:1])
        self.good(((-4, None, None), (None, 1, None)))
        self.good(((0, None, None), (7, 5, -100)))
        self.bad(((0, None, None), (7, 6, -100)))
        self.bad(((0, 9, None), (None, 5, None)))
        self.good(((0, 9, None), (None, 5, 6)))
        self.bad(((0, 9, None), (None, 5, 7)))

    def test_the_first_row(self):
        self.good(((0, None, None),))
        self.good(((-1, 3, None),))
        self.bad(((1, None, None),))
        self.bad(((None, 0, 0),))
        self.good(((None, 0, 0),), place=1)
        self.good(((None, 0, 0),), place=2)

    def test_of_another_place(self):
        self.bad(ROWS, place=1)
        self.bad(ROWS, place=2)

    def test_the_last_row_binds_nothing_more(self):
        self.good(ROWS[:2] + ((10 ** 99, 10 ** 99, -(10 ** 99)),))

    def test_an_arrow_of_a_place_to_itself(self):
        loop = (1, ((0, 0, 5),))
        self.good(((0,), (5,), (10,)), web=loop)
        self.bad(((0,), (5,), (11,)), web=loop)
        self.bad(((0,), (None,)), web=loop)

    def test_how_they_are_formed(self):
        for thing in [
            (), ((),), ((0, None),), ((0, None, None, None),), ROWS[:1] + ((None, 5),),
            ROWS[:1] + ((None, 5, None, None),),
            list(ROWS), (list(ROWS[0]),) + ROWS[1:], ROWS[:1] + (list(ROWS[1]),), ROWS[:2] + ([None, None, 2],), {0: 0},
            (0, None, None), (None,), ("abc",), ROWS + (None,), ROWS + ((),), ROWS + (0,), (ROWS,),
        ]:
            self.bad(thing)

    def test_whatever(self):
        for thing in odd_things():
            # These two are a row and rows by chance.
            if thing in ((0, 1, 5), ((0, 1, 5),)):
                continue
            kept = copy.deepcopy(thing)
            self.bad(thing)
            self.bad((thing,))
            self.bad(ROWS + (thing,))
            self.assertEqual(repr(thing), repr(kept))

    def test_whatever_within_rows(self):
        for thing in odd_things():
            fits = thing is None or is_whole(thing)
            self.assertIs(rows_bound(WEB, 0, ROWS[:2] + ((None, thing, 2),)), fits, thing)
            self.assertIs(rows_bound(WEB, 0, ROWS[:2] + ((thing, None, 2),)), fits, thing)
            self.assertIs(rows_bound(WEB, 0, ((thing, None, None),)), is_whole(thing) and thing <= 0, thing)

    def test_truths_are_no_numbers(self):
        self.bad(((False, None, None),))
        self.bad(((0, True, None),))
        self.bad(ROWS[:2] + ((None, False, 2),))

    def test_rows_bent_at_each_place(self):
        for web in made_webs(43, 25, most=6):
            rows = bounding_rows(web, 0, 5)
            self.good(rows, web=web)
            for at in range(6):
                for place in range(web[0]):
                    self.bent_at(web, rows, at, place)

    def bent_at(self, web, rows, at, place):
        number = rows[at][place]
        if number is None:
            things = (-1000, 0, 1000)
        else:
            things = (number - 1, None)
            self.bad(bent(rows, at, place, number + 1), web=web)
            self.bad(bent(rows, at, place, None), web=web)
        for thing in things:
            told = bent(rows, at, place, thing)
            self.assertIs(rows_bound(web, 0, told), slow_bound(web, 0, told))
            self.assertTrue(at < 5 or thing is None or rows_bound(web, 0, told))
        for thing in (True, "1", (), [], {}):
            self.bad(bent(rows, at, place, thing), web=web)

    def test_they_bound_ways(self):
        for web in made_webs(44, 25, most=4):
            rows = tuple(
                tuple(None if number is None else number - 3 for number in row) for row in bounding_rows(web, 0, 4)
            )
            self.good(rows, web=web)
            for k in range(5):
                for way in slow_ways(web, k):
                    if way[0] == 0:
                        self.assertLessEqual(rows[k][way[-1]], worth_gone(web, way))

    def test_no_place(self):
        for thing in no_places(3) + [3]:
            for rows in (ROWS, None, ()):
                self.assertIs(type(raised(lambda: rows_bound(WEB, thing, rows))), NoPlace, thing)


if __name__ == "__main__":
    unittest.main()
