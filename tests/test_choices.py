"""9.1 to 9.5: choices, the best means, and values that show that no choice is better."""

import copy
import itertools
import math
import random
import unittest
from fractions import Fraction

from material import (
    BIG, NO_FRACTIONS, as_pair, bent_numbers, circle, is_numbers, is_pair, leading_webs, little, made_numbers,
    made_webs, odd_things, put, quick_rings, raised, refusal, slow_mean, worth_table,
)
from meanrings.choices import (
    best_choice, best_many, best_means, choice_good, choice_means, choice_rings, choices_many, values_good, values_of,
)
from meanrings.errors import NoArrow, NoRing, TooGreat
from meanrings.means import least_mean
from meanrings.webs import groups_of, web_good

# (0, 1) of the mean 2, which leads to (2,) of the mean 5; (3, 4) of the mean 7, which leads to both.
WEB = (5, ((0, 1, 1), (1, 0, 3), (1, 2, -9), (2, 2, 5), (3, 0, 4), (3, 4, 7), (4, 2, 4), (4, 3, 7)))
BEST = [(2, 1), (2, 1), (5, 1), (2, 1), (2, 1)]
# Groups one behind the other, with lesser means behind: (0, 1) of the mean 9, (2,) of 4, (3, 4) of 1/2.
FALLING = (5, ((0, 1, 9), (1, 0, 9), (1, 2, 50), (2, 2, 4), (2, 3, 60), (3, 4, -1), (4, 3, 2)))
# The same with lesser means ahead.
RISING = (5, ((0, 1, -9), (1, 0, -9), (1, 2, -50), (2, 2, 4), (2, 3, -60), (3, 4, 11), (4, 3, 2)))
# Two groups of one mean, each of which a place ahead leads to.
ALIKE = (5, ((0, 1, 5), (0, 3, -5), (1, 2, 1), (2, 1, 3), (3, 4, 0), (4, 3, 4)))
# All ways go behind several places into the ring (2, 3).
BEHIND = (6, ((0, 1, 1), (1, 2, 1), (2, 3, 5), (3, 2, 8), (4, 0, 1), (5, 4, 1)))
WEBS = [WEB, FALLING, RISING, ALIKE, BEHIND]
NO_LEADS = [
    (1, ()), (8, ()), (2, ((0, 1, 5),)), (2, ((1, 0, 5), (1, 1, 3))), (3, ((0, 1, 1), (1, 0, 1), (1, 2, 1))),
]
# Products of 500 and of 512 choices, and of the most that there are.
JUST = (5, tuple(sorted([(one, other, one * other) for one in range(3) for other in range(5)] + [
    (3, 0, 1), (3, 4, 2), (4, 0, -3), (4, 3, 1),
])))
MORE = (5, tuple(sorted([(one, other, one * other) for one in range(3) for other in range(4)] + [
    (3, other, 1) for other in range(4)] + [(4, 0, -3), (4, 3, 1)])))
MOST = (8, tuple((one, other, one - other) for one in range(8) for other in range(3)))


def slow_choices(web):
    return list(itertools.product(*(
        [other for one, other, worth in web[1] if one == place] for place in range(web[0])
    )))


def slow_choice_ring(choice, place):
    """The ring into which a choice leads, by going so far that one is on it."""
    for step in range(len(choice)):
        place = choice[place]
    gone = [place]
    while choice[gone[-1]] != place:
        gone.append(choice[gone[-1]])
    at = gone.index(min(gone))
    return tuple(gone[at:] + gone[:at])


def slow_choice_means(web, choice):
    return [as_pair(slow_mean(web, slow_choice_ring(choice, place))) for place in range(web[0])]


def slow_reached(web):
    """For each place the set of those to which one comes from it."""
    reached = [{place} for place in range(web[0])]
    for step in range(web[0]):
        for one, other, worth in web[1]:
            for places in reached:
                if one in places:
                    places.add(other)
    return reached


def slow_best(web):
    rings = quick_rings(web)
    return [
        as_pair(min(slow_mean(web, ring) for ring in rings if ring[0] in places)) for places in slow_reached(web)
    ]


def slow_values(web, means, numbers):
    """Whether values of the right form show that no choice is better."""
    for one, other, worth in web[1]:
        here, there = Fraction(*means[one]), Fraction(*means[other])
        if here > there:
            return False
        if here == there and worth + Fraction(*numbers[other]) - Fraction(*numbers[one]) < here:
            return False
    return True


def chosen_webs(seed, count):
    return (
        leading_webs(seed, count, arrows=5) + leading_webs(seed + 1, count, worth=1)
        + leading_webs(seed + 2, count, arrows=0, worth=1) + leading_webs(seed + 3, count, worth=BIG, arrows=8)
        + leading_webs(seed + 4, count, least=7, worth=40)
    )


class Leads(unittest.TestCase):
    """9.1: webs with a place from which no arrow leads."""

    def test_ahead_of_all_else(self):
        for web in NO_LEADS:
            self.assertIs(web_good(web), True)
            for thing in odd_things() + [(0,) * web[0], (1,) * web[0], (((0, 1),) * web[0],) * 2]:
                for ask in (choice_good, choice_rings, choice_means, values_good):
                    self.assertIs(refusal(ask, web, thing), NoArrow, thing)
            for ask in (best_means, best_choice, values_of, choices_many, best_many):
                self.assertIs(refusal(ask, web), NoArrow)

    def test_ahead_of_too_great(self):
        web = (8, tuple((one, other, 1) for one in range(7) for other in range(3)))
        self.assertIs(refusal(best_many, web), NoArrow)
        self.assertIs(refusal(best_many, (8, web[1] + ((7, 0, 1),))), TooGreat)

    def test_each_place_counts(self):
        for web in chosen_webs(501, 5):
            for place in range(web[0]):
                less = (web[0], tuple(arrow for arrow in web[1] if arrow[0] != place))
                self.assertIs(refusal(best_means, less), NoArrow)
                self.assertIs(refusal(choice_good, less, None), NoArrow)


class Choices(unittest.TestCase):
    def test_ordinary(self):
        self.assertIs(choice_good(WEB, (1, 0, 2, 4, 3)), True)
        self.assertEqual(choice_rings(WEB, (1, 0, 2, 4, 3)), [(0, 1), (0, 1), (2,), (3, 4), (3, 4)])
        self.assertEqual(choice_means(WEB, (1, 0, 2, 4, 3)), [(2, 1), (2, 1), (5, 1), (7, 1), (7, 1)])
        self.assertEqual(choice_rings(WEB, (1, 2, 2, 0, 3)), [(2,)] * 5)
        self.assertEqual(choice_means(WEB, (1, 2, 2, 0, 3)), [(5, 1)] * 5)
        self.assertEqual(choice_means(FALLING, (1, 2, 3, 4, 3)), [(1, 2)] * 5)

    def test_behind_several_places(self):
        choice = (1, 2, 3, 2, 0, 4)
        self.assertEqual(choice_rings(BEHIND, choice), [(2, 3)] * 6)
        self.assertEqual(choice_means(BEHIND, choice), [(13, 2)] * 6)

    def test_a_place_chosen_to_itself(self):
        self.assertEqual(choice_rings((1, ((0, 0, -4),)), (0,)), [(0,)])
        self.assertEqual(choice_means((1, ((0, 0, -4),)), (0,)), [(-4, 1)])
        for many in range(2, 9):
            web = (many, tuple((place, other, place) for place in range(many) for other in sorted({0, place})))
            self.assertEqual(choice_rings(web, tuple(range(many))), [(place,) for place in range(many)])
            self.assertEqual(choice_rings(web, (0,) * many), [(0,)] * many)
            self.assertEqual(choice_means(web, (0,) * many), [(0, 1)] * many)

    def test_rings_begin_with_their_least_places(self):
        for many in range(1, 9):
            web = circle(many, [1] * many)
            choice = tuple((place + 1) % many for place in range(many))
            self.assertEqual(choice_rings(web, choice), [tuple(range(many))] * many)

    def test_made_webs(self):
        for web in chosen_webs(511, 20):
            choices = slow_choices(web)
            for choice in choices[:40] + choices[-40:]:
                self.assertIs(choice_good(web, choice), True)
                rings, means = choice_rings(web, choice), choice_means(web, choice)
                self.assertEqual((type(rings), type(means)), (list, list))
                self.assertEqual(rings, [slow_choice_ring(choice, place) for place in range(web[0])])
                self.assertEqual(means, slow_choice_means(web, choice))

    def test_places_to_which_it_does_not_lead(self):
        for web in chosen_webs(516, 4) + WEBS:
            choice = slow_choices(web)[0]
            for place in range(web[0]):
                for other in range(-2, web[0] + 2):
                    told = choice_good(web, put(choice, place, other))
                    self.assertIs(told, (place, other) in worth_table(web))

    def test_bent(self):
        choice = (1, 2, 2, 0, 3)
        bent = [put(choice, at, thing) for at in range(5) for thing in odd_things() + [5, -5, [choice[at]]]]
        bent = [thing for thing in bent if repr(thing) not in map(repr, slow_choices(WEB))]
        bent.extend([choice[:4], choice[1:], choice + (0,), (1,) + choice, (), list(choice), (choice,), "12203"])
        bent.append(dict(enumerate(choice)))
        bent.extend([put(choice, 0, True), put(choice, 3, False)])
        for thing in bent + odd_things():
            self.assertIs(choice_good(WEB, thing), False, thing)
            self.assertIs(refusal(choice_rings, WEB, thing), NoRing, thing)
            self.assertIs(refusal(choice_means, WEB, thing), NoRing, thing)


class BestMeans(unittest.TestCase):
    def test_ordinary(self):
        self.assertEqual(best_means(WEB), BEST)
        self.assertEqual(best_means(FALLING), [(1, 2)] * 5)
        self.assertEqual(best_means(RISING), [(-9, 1)] * 2 + [(4, 1)] + [(13, 2)] * 2)
        self.assertEqual(best_means(ALIKE), [(2, 1)] * 5)
        self.assertEqual(best_means(BEHIND), [(13, 2)] * 6)
        self.assertEqual(best_means((1, ((0, 0, -BIG),))), [(-BIG, 1)])

    def test_made_webs(self):
        for web in chosen_webs(521, 50):
            told = best_means(web)
            self.assertEqual(type(told), list)
            self.assertTrue(all(is_pair(mean) for mean in told))
            self.assertEqual(told, slow_best(web))

    def test_best_choice(self):
        seen = set()
        for web in WEBS + chosen_webs(531, 60):
            choice = best_choice(web)
            self.assertEqual(type(choice), tuple)
            self.assertIs(choice_good(web, choice), True)
            best = slow_best(web)
            self.assertEqual(slow_choice_means(web, choice), best)
            self.assertEqual(choice_means(web, choice), best)
            seen.add(min(len(set(best)), 3))
        self.assertEqual(seen, {1, 2, 3})

    def test_no_choice_is_better(self):
        for web in leading_webs(541, 40, most=5, arrows=6) + leading_webs(542, 20, most=4, worth=BIG):
            best = [Fraction(*mean) for mean in best_means(web)]
            for choice in slow_choices(web):
                for place, mean in enumerate(slow_choice_means(web, choice)):
                    self.assertGreaterEqual(Fraction(*mean), best[place])

    def test_many_rings_of_one_mean(self):
        # Of these rings pieces can be chosen that make another ring, of the same mean.
        web = (4, ((0, 1, 0), (0, 3, 0), (1, 2, 0), (2, 0, 0), (2, 3, 0), (3, 0, 0), (3, 1, 0)))
        self.assertEqual(slow_choice_means(web, best_choice(web)), [(0, 1)] * 4)
        for web in leading_webs(543, 60, worth=0):
            self.assertEqual(slow_choice_means(web, best_choice(web)), [(0, 1)] * web[0])


class Values(unittest.TestCase):
    def test_ordinary(self):
        numbers = ((0, 1), (1, 1), (0, 1), (3, 2), (1, 3))
        means = ((2, 1), (2, 1), (5, 1), (2, 1), (2, 1))
        self.assertIs(values_good(WEB, (means, numbers)), True)
        self.assertIs(values_good(WEB, (put(means, 2, (1, 1)), numbers)), False)
        self.assertIs(values_good(WEB, (put(means, 2, (2, 1)), numbers)), False)
        self.assertIs(values_good(WEB, (put(means, 0, (3, 1)), numbers)), False)
        self.assertIs(values_good(WEB, (means, put(numbers, 0, (1, 10)))), False)
        self.assertIs(values_good(WEB, (means, put(numbers, 0, (-1, 10)))), False)
        # From 3 to 0 with the worth 4 the numbers may differ by 2 at most.
        self.assertIs(values_good(WEB, (means, put(numbers, 3, (2, 1)))), True)
        self.assertIs(values_good(WEB, (means, put(numbers, 3, (21, 10)))), False)

    def test_an_arrow_to_itself(self):
        web = (1, ((0, 0, 5),))
        self.assertIs(values_good(web, (((5, 1),), ((-7, 2),))), True)
        self.assertIs(values_good(web, (((9, 2),), ((-7, 2),))), True)
        self.assertIs(values_good(web, (((11, 2),), ((-7, 2),))), False)

    def test_lesser_means_show_it_too(self):
        for web in WEBS + chosen_webs(551, 15):
            means, numbers = values_of(web)
            for less in (1, Fraction(1, 7), BIG):
                lower = tuple(as_pair(Fraction(*mean) - less) for mean in means)
                self.assertIs(values_good(web, (lower, numbers)), True)
            least = min(worth for one, other, worth in web[1])
            self.assertIs(values_good(web, (((least, 1),) * web[0], ((3, 5),) * web[0])), True)
            self.assertIs(values_good(web, ((little((least, 1))[0],) * web[0], ((3, 5),) * web[0])), False)

    def test_values_of(self):
        for web in WEBS + chosen_webs(561, 50):
            told = values_of(web)
            self.assertEqual((type(told), len(told)), (tuple, 2))
            means, numbers = told
            self.assertTrue(is_numbers(web, means) and is_numbers(web, numbers))
            self.assertEqual(list(means), slow_best(web))
            self.assertTrue(slow_values(web, means, numbers))
            self.assertIs(values_good(web, told), True)
            for place in range(web[0]):
                # More than the best mean at a place cannot be shown.
                self.assertIs(values_good(web, (put(means, place, little(means[place])[0]), numbers)), False)

    def test_made_values(self):
        source = random.Random(571)
        seen = {True: 0, False: 0}
        for web in leading_webs(572, 400, most=4, worth=2, arrows=4):
            told = values_of(web)
            for values in (
                (made_numbers(source, web[0], 2), made_numbers(source, web[0], 4)),
                (told[0], made_numbers(source, web[0], 2)),
                (put(told[0], source.randrange(web[0]), made_numbers(source, 1, 8)[0]), told[1]),
            ):
                good = slow_values(web, *values)
                self.assertIs(values_good(web, values), good)
                seen[good] += 1
                if good:
                    best = slow_best(web)
                    self.assertTrue(all(Fraction(*values[0][at]) <= Fraction(*best[at]) for at in range(web[0])))
        self.assertGreater(min(seen.values()), 100)

    def test_each_arrow_counts(self):
        for web in chosen_webs(581, 6):
            means, numbers = values_of(web)
            for at, (one, other, worth) in enumerate(web[1]):
                if one == other or means[one] != means[other]:
                    continue
                spare = worth + Fraction(*numbers[other]) - Fraction(*numbers[one]) - Fraction(*means[one])
                just = put(web[1], at, (one, other, worth - math.floor(spare)))
                less = put(web[1], at, (one, other, worth - math.floor(spare) - 1))
                self.assertIs(values_good((web[0], just), (means, numbers)), True)
                self.assertIs(values_good((web[0], less), (means, numbers)), False)

    def test_bent(self):
        means, numbers = values_of(WEB)
        for thing in bent_numbers(means):
            self.assertIs(values_good(WEB, (thing, numbers)), False, thing)
        for thing in bent_numbers(numbers):
            kept = copy.deepcopy(thing)
            self.assertIs(values_good(WEB, (means, thing)), False, thing)
            self.assertEqual(repr(thing), repr(kept))
        for thing in odd_things() + NO_FRACTIONS:
            for bent in (
                thing, (thing, thing), (means, numbers, thing), (thing, means, numbers), (means, thing),
                ((thing,) * 5, numbers), (means, (thing,) * 5),
            ):
                self.assertIs(values_good(WEB, bent), False, bent)
        for bent in ((means,), [means, numbers], ((means, numbers),), {0: means, 1: numbers}, means + numbers):
            self.assertIs(values_good(WEB, bent), False, bent)

    def test_not_in_lowest_terms(self):
        means, numbers = values_of(WEB)
        for at in range(5):
            for part, other in ((means, numbers), (numbers, means)):
                doubled = put(part, at, (2 * part[at][0], 2 * part[at][1]))
                for values in ((doubled, other), (other, doubled)):
                    self.assertIs(values_good(WEB, values), False)

    def test_great_numbers(self):
        means, numbers = values_of(WEB)
        great = tuple(as_pair(Fraction(*number) + 10 ** 99) for number in numbers)
        self.assertIs(values_good(WEB, (means, great)), True)
        self.assertIs(values_good(WEB, (means, put(great, 0, numbers[0]))), False)


class Many(unittest.TestCase):
    def test_ordinary(self):
        self.assertEqual(choices_many(WEB), 8)
        self.assertEqual(choices_many((1, ((0, 0, 5),))), 1)
        self.assertEqual(best_many((1, ((0, 0, 5),))), 1)
        # 1 must go to 0, and one of 3 and 4 must lead on to 0 with the other one behind it: 3 to 0, 4 to 3.
        self.assertEqual(best_many(WEB), 1)
        self.assertEqual(best_many(ALIKE), 2)
        self.assertEqual(best_many(BEHIND), 1)

    def test_just_so_many(self):
        self.assertEqual(choices_many(JUST), 500)
        self.assertEqual(best_many(JUST), self.slow_many(JUST))
        for web, many in ((MORE, 512), (MOST, 3 ** 8)):
            self.assertEqual(choices_many(web), many)
            error = raised(lambda: best_many(web))
            self.assertIs(type(error), TooGreat)
            self.assertEqual(vars(error), {"many": many, "most": 500})
        self.assertEqual(best_many((5, MORE[1][1:])), self.slow_many((5, MORE[1][1:])))

    def slow_many(self, web):
        best = slow_best(web)
        return sum(slow_choice_means(web, choice) == best for choice in slow_choices(web))

    def test_made_webs(self):
        refused = 0
        for web in leading_webs(591, 50, worth=1, arrows=9) + leading_webs(592, 50, worth=0) + made_webs(593, 50):
            if {arrow[0] for arrow in web[1]} != set(range(web[0])):
                continue
            many = len(slow_choices(web))
            self.assertEqual(choices_many(web), many)
            if many > 500:
                refused += 1
                self.assertEqual(vars(raised(lambda: best_many(web))), {"many": many, "most": 500})
            else:
                self.assertEqual(best_many(web), self.slow_many(web))
        self.assertGreater(refused, 5)


class So(unittest.TestCase):
    """9.5"""

    def test_best_means_and_the_least_mean(self):
        for web in WEBS + chosen_webs(601, 30):
            best = best_means(web)
            self.assertEqual(as_pair(min(Fraction(*mean) for mean in best)), least_mean(web))
            for group in groups_of(web):
                self.assertEqual(len({best[place] for place in group}), 1)
            for one, other, worth in web[1]:
                self.assertLessEqual(Fraction(*best[one]), Fraction(*best[other]))


if __name__ == "__main__":
    unittest.main()
