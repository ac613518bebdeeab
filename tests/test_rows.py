"""7.1 to 7.4: rows led on, and their rounds."""

import copy
import random
import unittest
from fractions import Fraction

from material import BIG, as_pair, circle, is_whole, made_webs, odd_things, put, raised, slow_rings
from meanrings.errors import NoRow
from meanrings.means import least_mean, mean_rows
from meanrings.rows import round_good, round_of, row_far, row_led
from meanrings.webs import groups_of

FAR = 10 ** 18
WEB = (3, ((0, 1, 5), (1, 2, -3), (2, 0, 1), (2, 1, 2)))
ROW = (0, None, 4)
# Its rows come again from the start 1 on, with laps of 2, and 3 more each time.
TWO = (3, ((0, 1, 7), (1, 2, 1), (2, 1, 2)))
TWO_ROW = (0, None, None)


def slow_led(web, row):
    led = [[row[one] + worth for one, other, worth in web[1] if other == place and row[one] is not None]
           for place in range(web[0])]
    return tuple(min(numbers, default=None) for numbers in led)


def slow_far(web, row, steps):
    for step in range(steps):
        row = slow_led(web, row)
    return row


def slow_more(row, later):
    """How much more the later row has at each place, None where that differs."""
    if [number is None for number in row] != [number is None for number in later]:
        return None
    more = {last - first for first, last in zip(row, later) if first is not None}
    return None if len(more) > 1 else more.pop() if more else 0


def slow_round(web, row, most):
    rows = [slow_far(web, row, 0)]
    for step in range(most):
        rows.append(slow_led(web, rows[-1]))
    rounds = [
        (start, lap, slow_more(rows[start], rows[start + lap]))
        for start in range(most) for lap in range(1, most - start + 1)
    ]
    return next((told for told in rounds if told[2] is not None), None)


def made_row(source, many, most=9):
    return tuple(source.choice((None, source.randint(-most, most), source.randint(-most, most))) for at in range(many))


def chosen(seed, count, most=8):
    """Webs with rows: with None at none, some and all places, of small and of great numbers."""
    source = random.Random(seed)
    webs = (
        made_webs(seed, count, most=most) + made_webs(seed + 1, count, most=most, arrows=8)
        + made_webs(seed + 2, count, most=most, worth=BIG) + made_webs(seed + 3, count, most=most, worth=1)
    )
    rows = [(web, made_row(source, web[0], source.choice((9, BIG)))) for web in webs]
    return rows + [(web, (None,) * web[0]) for web in webs[::7]] + [(web, (0,) * web[0]) for web in webs[::7]]


def no_rows(row):
    """Things that are no rows, where a row has three places."""
    wrong = [part for part in odd_things() if part is not None and not is_whole(part)]
    bent = [put(row, at, part) for at in range(len(row)) for part in wrong + [True, False, (0,), [0], "0", (1, 2)]]
    bent.extend([row[:-1], row[1:], row + (0,), row + (None,), list(row), (row,), {0: 0, 1: None, 2: 4}])
    # This one is a row by chance.
    return bent + [thing for thing in odd_things() if thing != (0, 1, 5)]


class RowLed(unittest.TestCase):
    def test_ordinary(self):
        self.assertEqual(row_led(WEB, ROW), (5, 5, None))
        self.assertEqual(row_led(WEB, (0, 0, 0)), (1, 2, -3))
        self.assertEqual(row_led(WEB, (0, None, None)), (None, 5, None))
        self.assertEqual(row_led((1, ((0, 0, -4),)), (9,)), (5,))

    def test_none(self):
        self.assertEqual(row_led(WEB, (None, None, None)), (None, None, None))
        self.assertEqual(row_led((2, ()), (1, 2)), (None, None))
        self.assertEqual(row_led((2, ((0, 1, 3),)), (None, 2)), (None, None))

    def test_made_webs(self):
        for web, row in chosen(501, 50):
            told = row_led(web, row)
            self.assertEqual(type(told), tuple)
            self.assertEqual(told, slow_led(web, row))

    def test_great_numbers(self):
        self.assertEqual(row_led(WEB, (10 ** 99, None, -(10 ** 99))), (1 - 10 ** 99, 2 - 10 ** 99, None))

    def test_no_row(self):
        for thing in no_rows(ROW):
            kept = copy.deepcopy(thing)
            self.assertIs(type(raised(lambda: row_led(WEB, thing))), NoRow, thing)
            self.assertEqual(repr(thing), repr(kept))


class RowFar(unittest.TestCase):
    def test_no_step_and_one_step(self):
        for web, row in chosen(511, 20):
            self.assertEqual(row_far(web, row, 0), row)
            self.assertEqual(row_far(web, row, 1), slow_led(web, row))
            self.assertEqual(type(row_far(web, row, 0)), tuple)

    def test_steps_one_by_one(self):
        for web, row in chosen(515, 12):
            for steps in (2, 3, 4, 7, 8, 31, 100):
                self.assertEqual(row_far(web, row, steps), slow_far(web, row, steps))

    def test_steps_put_together(self):
        for web, row in chosen(518, 5):
            for one, other in ((5, 6), (FAR // 2, FAR // 2), (FAR - 1, 1), (1, FAR - 1), (FAR, 0)):
                self.assertEqual(row_far(web, row_far(web, row, one), other), row_far(web, row, one + other))

    def test_a_great_many_steps(self):
        self.assertEqual(row_far((1, ((0, 0, BIG),)), (5,), FAR), (5 + FAR * BIG,))
        self.assertEqual(row_far((1, ((0, 0, -BIG),)), (None,), FAR), (None,))
        self.assertEqual(row_far((2, ((0, 1, 1),)), (0, 0), FAR), (None, None))
        # Each lap goes around once, and the steps fall short of one lap by what is left.
        web = circle(7, [1, 2, 3, 4, 5, 6, 7])
        laps, left = divmod(FAR, 7)
        row = put((None,) * 7, left, laps * 28 + sum(range(1, left + 1)))
        self.assertEqual(row_far(web, (0,) + (None,) * 6, FAR), row)

    def test_by_rounds(self):
        for web, row in chosen(521, 6, most=5):
            told = slow_round(web, row, 60)
            if told is not None:
                start, lap, more = told
                laps, left = divmod(FAR - start, lap)
                near = slow_far(web, row, start + left)
                far = tuple(None if number is None else number + laps * more for number in near)
                self.assertEqual(row_far(web, row, FAR), far)

    def test_no_row(self):
        for thing in no_rows(ROW):
            kept = copy.deepcopy(thing)
            for steps in (0, 1, FAR):
                self.assertIs(type(raised(lambda: row_far(WEB, thing, steps))), NoRow, thing)
            self.assertEqual(repr(thing), repr(kept))


class RoundGood(unittest.TestCase):
    def good(self, thing, web=TWO, row=TWO_ROW):
        self.assertIs(round_good(web, row, thing), True, thing)

    def bad(self, thing, web=TWO, row=TWO_ROW):
        self.assertIs(round_good(web, row, thing), False, thing)

    def test_the_least_round(self):
        self.assertEqual(slow_round(TWO, TWO_ROW, 9), (1, 2, 3))
        self.good((1, 2, 3))
        for thing in ((0, 2, 3), (1, 1, 3), (1, 1, 1), (1, 3, 3), (1, 2, 2), (1, 2, 4), (1, 2, 0), (1, 2, -3)):
            self.bad(thing)

    def test_greater_starts_and_laps_taken_several_times(self):
        for start in range(1, 12):
            for times in range(1, 9):
                self.good((start, 2 * times, 3 * times))
                self.bad((start, 2 * times - 1, 3 * times))
                self.bad((start, 2 * times, 3 * times - 3))
                self.bad((0, 2 * times, 3 * times))

    def test_near_the_most(self):
        for start in (1, FAR - 2, FAR - 1):
            self.good((start, FAR - 2, 3 * (FAR - 2) // 2))
            self.bad((start, FAR - 1, 3 * (FAR - 2) // 2))
            self.bad((start, FAR - 2, 3 * (FAR - 2) // 2 + 1))
        self.bad((0, FAR - 2, 3 * (FAR - 2) // 2))

    def test_a_start_that_is_reached_late(self):
        # The way of the lesser mean is dear to come to, so it wins only behind very many steps.
        web = (2, ((0, 0, 1), (0, 1, 10 ** 9), (1, 0, 10 ** 9), (1, 1, 0)))
        row = (0, None)
        start = 2 * 10 ** 9
        self.bad((start - 9, 1, 0), web=web, row=row)
        self.good((start + 9, 1, 0), web=web, row=row)
        self.good((FAR - 1, FAR - 1, 0), web=web, row=row)
        self.good((1, 1, 1), web=(1, ((0, 0, 1),)), row=(0,))

    def test_how_it_is_formed(self):
        for thing in (
            (1, 0, 0), (1, 0, 3), (1, -2, -3), (-1, 2, 3), (-2, 2, 3), (-(10 ** 99), 2, 3), (1, -(10 ** 99), 3), (),
            (1,), (1, 2), (2, 3), (1, 2, 3, 0), (1, 2, 3, None), [1, 2, 3], {0: 1, 1: 2, 2: 3}, ((1, 2, 3),), "123",
            (True, 2, 3), (1, True, 3), (True, True, True), (1, 2, None), (None, 2, 3), (1, None, 3), ("1", 2, 3),
            (1, "2", 3), (1, 2, "3"), ((1,), 2, 3), (1, [2], 3), (1, 2, (3, 1)), (1, 2, {}),
        ):
            self.bad(thing)
        loop = (1, ((0, 0, 1),))
        self.good((0, 1, 1), web=loop, row=(0,))
        for thing in ((False, 1, 1), (0, True, 1), (0, 1, True), (0, 0, 0), (0, 0, False), (-1, 1, 1)):
            self.bad(thing, web=loop, row=(0,))
        self.bad((0, 1, False), web=(1, ((0, 0, 0),)), row=(0,))

    def test_whatever(self):
        for thing in odd_things():
            kept = copy.deepcopy(thing)
            self.bad(thing)
            self.bad((1, 2, 3, thing))
            if not (is_whole(thing) and thing >= 1):
                self.bad((thing, 2, 3))
            self.bad((1, thing if not is_whole(thing) or thing < 0 else 0, 3))
            self.bad((1, 2, thing))
            self.assertEqual(repr(thing), repr(kept))

    def test_none_at_all_places(self):
        for web, row in ((TWO, (None,) * 3), ((2, ((0, 1, 1),)), (None, 5)), ((8, ()), (None,) * 8)):
            for start, lap in ((0, 1), (0, 2), (7, 3), (FAR - 1, FAR - 1)):
                # The second row has None at all places behind one step.
                begun = start > 0 or row[-1] is None
                self.assertIs(round_good(web, row, (start, lap, 0)), begun)
                self.bad((start, lap, 1), web=web, row=row)
                self.bad((start, lap, -1), web=web, row=row)
                self.bad((start, lap, 10 ** 99), web=web, row=row)

    def test_none_at_other_places(self):
        web = circle(2, [1, 1])
        self.bad((0, 1, 1), web=web, row=(0, None))
        self.good((0, 2, 2), web=web, row=(0, None))
        self.good((0, 1, 1), web=web, row=(0, 0))

    def test_made_rounds(self):
        for web, row in chosen(531, 12, most=5):
            rows = [row]
            for step in range(14):
                rows.append(slow_led(web, rows[-1]))
            for start in range(7):
                for lap in range(1, 8):
                    more = slow_more(rows[start], rows[start + lap])
                    for told in {0, 1} if more is None else {more - 1, more, more + 1}:
                        self.assertIs(round_good(web, row, (start, lap, told)), more is not None and told == more)

    def test_no_row(self):
        for thing in no_rows(TWO_ROW):
            kept = copy.deepcopy(thing)
            for told in ((1, 2, 3), None, (), (FAR - 1, FAR - 1, 0)):
                self.assertIs(type(raised(lambda: round_good(TWO, thing, told))), NoRow, thing)
            self.assertEqual(repr(thing), repr(kept))


class RoundOf(unittest.TestCase):
    def test_ordinary(self):
        self.assertEqual(round_of(TWO, TWO_ROW, 300), (1, 2, 3))
        self.assertEqual(round_of((1, ((0, 0, -7),)), (5,), 300), (0, 1, -7))
        self.assertEqual(round_of(circle(8, [1] * 8), (0,) * 8, 300), (0, 1, 1))
        self.assertEqual(round_of(circle(8, [1] * 8), (0,) + (None,) * 7, 300), (0, 8, 8))

    def test_a_most_that_is_just_reached_and_just_missed(self):
        self.assertEqual(round_of(TWO, TWO_ROW, 3), (1, 2, 3))
        self.assertIsNone(round_of(TWO, TWO_ROW, 2))
        self.assertEqual(round_of(circle(8, [1] * 8), (0,) + (None,) * 7, 8), (0, 8, 8))
        self.assertIsNone(round_of(circle(8, [1] * 8), (0,) + (None,) * 7, 7))
        for most in (1, 2, 3):
            self.assertEqual(round_of((1, ((0, 0, 5),)), (0,), most), (0, 1, 5))

    def test_start_and_lap_together_are_just_three_hundred(self):
        # Place 0 falls by 1 with each step, and place 1 follows it once it has fallen as low.
        web = (2, ((0, 0, -1), (0, 1, 0), (1, 1, 0)))
        for low in (1, 5, 297, 298, 299, 300):
            row = (0, -low)
            self.assertIs(round_good(web, row, (low + 1, 1, -1)), True)
            self.assertIs(round_good(web, row, (low, 1, -1)), False)
            self.assertEqual(round_of(web, row, 300), (low + 1, 1, -1) if low < 299 else None)
            if low < 299:
                self.assertEqual(round_of(web, row, low + 2), (low + 1, 1, -1))
                self.assertIsNone(round_of(web, row, low + 1))
        for lap in (5, 7, 8):
            for most in (lap - 1, lap):
                row = (0,) + (None,) * (lap - 1)
                told = round_of(circle(lap, [2] * lap), row, most)
                self.assertEqual(told, (0, lap, 2 * lap) if most == lap else None)

    def test_a_most_of_one(self):
        self.assertEqual(round_of(WEB, (None,) * 3, 1), (0, 1, 0))
        self.assertIsNone(round_of(WEB, (0, 0, 0), 1))
        self.assertEqual(round_of((2, ()), (None, None), 1), (0, 1, 0))
        self.assertIsNone(round_of((2, ()), (None, 4), 1))
        self.assertEqual(round_of((2, ()), (None, 4), 2), (1, 1, 0))

    def test_rings_of_unlike_sizes(self):
        # A ring of 2 places and one of 3 come again together behind 6 steps.
        rings = ((0, 1, 1), (1, 0, 1), (2, 3, 1), (3, 4, 1), (4, 2, 1))
        row = (0, None, 0, None, None)
        self.assertEqual(round_of((5, rings), row, 300), (0, 6, 6))
        self.assertIsNone(round_of((5, rings), row, 5))

    def test_made_rounds(self):
        for web, row in chosen(541, 40, most=6):
            for most in (1, 2, 5, 12, 40):
                self.assertEqual(round_of(web, row, most), slow_round(web, row, most))

    def test_three_hundred(self):
        for web, row in chosen(545, 3):
            told = round_of(web, row, 300)
            self.assertEqual(told, slow_round(web, row, 300))
            if told is not None:
                self.assertEqual(type(told), tuple)
                self.assertIs(round_good(web, row, told), True)

    def test_no_row(self):
        for thing in no_rows(TWO_ROW):
            kept = copy.deepcopy(thing)
            for most in (1, 300):
                self.assertIs(type(raised(lambda: round_of(TWO, thing, most))), NoRow, thing)
            self.assertEqual(repr(thing), repr(kept))


class So(unittest.TestCase):
    """7.3, 7.4"""

    def test_rounds_tell_the_least_mean(self):
        told_of = 0
        for web, row in chosen(551, 40, most=6):
            told = round_of(web, row, 60)
            if told is not None and len(groups_of(web)) == 1 and slow_rings(web):
                if any(number is not None for number in row_far(web, row, told[0])):
                    told_of += 1
                    self.assertEqual(as_pair(Fraction(told[2], told[1])), least_mean(web))
        self.assertGreater(told_of, 20)

    def test_rounds_go_on(self):
        for web, row in chosen(555, 15, most=6):
            told = round_of(web, row, 60)
            if told is not None:
                start, lap, more = told
                for further in (0, 1, 5, 10 ** 9):
                    for times in (1, 2, 3, 10 ** 9):
                        self.assertIs(round_good(web, row, (start + further, lap * times, more * times)), True)
                if start > 0:
                    self.assertIs(round_good(web, row, (start - 1, lap, more)), False)

    def test_rows_of_noughts(self):
        for web, row in chosen(561, 20):
            noughts = (0,) * web[0]
            led = noughts
            for k, listed in enumerate(mean_rows(web)):
                self.assertEqual(row_far(web, noughts, k), tuple(listed))
                self.assertEqual(led, tuple(listed))
                led = row_led(web, led)

    def test_greater_by_as_much(self):
        for web, row in chosen(565, 20):
            for more in (1, -7, BIG):
                moved = tuple(None if number is None else number + more for number in row)
                for steps in (1, 6, FAR):
                    far = tuple(None if number is None else number + more for number in row_far(web, row, steps))
                    self.assertEqual(row_far(web, moved, steps), far)
                self.assertEqual(round_of(web, moved, 30), round_of(web, row, 30))

    def test_the_least_of_two_rows(self):
        source = random.Random(568)
        for web, row in chosen(569, 20):
            other = made_row(source, web[0])
            self.assertEqual(row_led(web, self.least(row, other)), self.least(row_led(web, row), row_led(web, other)))
            far = self.least(row_far(web, row, FAR), row_far(web, other, FAR))
            self.assertEqual(row_far(web, self.least(row, other), FAR), far)

    def least(self, row, other):
        pairs = [[number for number in pair if number is not None] for pair in zip(row, other)]
        return tuple(min(pair, default=None) for pair in pairs)


if __name__ == "__main__":
    unittest.main()
