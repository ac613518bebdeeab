"""0.2: what was told is the asker's own, and the same question has the same answer."""

import copy
import unittest

from material import made_webs, raised
from meanrings import means, ratios, rows, shows, tight, ways, webs


def questions(web):
    """One question or more for each function that asks of a web."""
    last = web[0] - 1
    asks = [
        (webs.web_good, web), (webs.web_of, web[0], list(web[1])), (webs.turned_web, web), (webs.groups_of, web),
        (webs.arrows_from, web, last), (webs.arrows_to, web, last), (webs.worth_of, web, 0, last),
        (webs.ring_good, web, (0,)), (webs.rings_of, web), (webs.ring_worth, web, (0,)), (webs.ring_mean, web, (0,)),
        (ways.way_good, web, (0, last)), (ways.way_worth, web, (0, last)), (ways.way_table, web, 0),
        (ways.way_table, web, 5), (ways.way_table, web, 10 ** 12), (ways.bounding_rows, web, 0, 9),
        (ways.rows_bound, web, 0, ways.bounding_rows(web, 0, 9)), (means.least_mean, web), (means.greatest_mean, web),
        (means.least_ring, web), (means.first_least, web), (means.mean_rows, web), (means.no_less, web, (0, 1)),
    ]
    for ask in (ways.least_way, ways.least_upto, ways.first_way):
        asks.extend([(ask, web, 0, last, k) for k in (0, 1, 40)])
    return asks + questions_of_bounds(web) + questions_of_ratios(web) + questions_of_rows(web)


def questions_of_bounds(web):
    last = web[0] - 1
    numbers = tuple((place, 3 * place + 1) for place in range(web[0]))
    asks = [(shows.bound_of, web, numbers), (shows.mean_paper, web), (shows.mean_paper_good, web, ((0,), numbers))]
    for bound in ((-4, 1), (1, 3), (5, 1)):
        asks.extend([
            (shows.shows_good, web, bound, numbers), (shows.shows_good, web, bound, [list(numbers)]),
            (shows.shows_for, web, bound), (shows.ring_under, web, bound), (shows.far_numbers, web, bound, last),
        ])
    asks.extend([(tight.tight_arrows, web, told) for told in (numbers, shows.shows_for(web, (-4, 1)))])
    asks.extend([(ask, web) for ask in (tight.core_places, tight.core_arrows, tight.core_groups, shows.mean_paper)])
    paper = shows.mean_paper(web)
    if paper is not None:
        asks.extend([(tight.tight_arrows, web, paper[1]), (shows.mean_paper_good, web, paper)])
    return asks


def questions_of_ratios(web):
    numbers = tuple((place, 3 * place + 1) for place in range(web[0]))
    asks = []
    for spans in (tuple(range(1, len(web[1]) + 1)), list(range(len(web[1])))):
        asks.extend([
            (ratios.ring_ratio, web, spans, (0,)), (ratios.least_ratio, web, spans), (ratios.ratio_ring, web, spans),
            (ratios.ratios_of, web, spans), (ratios.ratio_shows_good, web, spans, (-1, 2), numbers),
            (ratios.ratio_shows_for, web, spans, (-4, 1)), (ratios.ratio_bound_of, web, spans, numbers),
            (ratios.ratio_paper_good, web, spans, ((0,), numbers)), (ratios.ratio_paper, web, spans),
        ])
    return asks


def questions_of_rows(web):
    asks = []
    for row in ((0,) * web[0], (None,) * web[0], (None,) * (web[0] - 1) + (7,), [0] * web[0]):
        asks.extend([
            (rows.row_led, web, row), (rows.row_far, web, row, 0), (rows.row_far, web, row, 10 ** 18),
            (rows.round_good, web, row, (5, 6, 0)), (rows.round_good, web, row, [5, 6, 0]),
            (rows.round_of, web, row, 20),
        ])
    return asks


def answer(question):
    told = []
    error = raised(lambda: told.append(question[0](*question[1:])))
    return (type(error), vars(error)) if error is not None else told[0]


def spoil(thing):
    """Changes all lists that are told, those within them first."""
    if isinstance(thing, (list, tuple)):
        for part in thing:
            spoil(part)
    if isinstance(thing, list):
        thing.append("spoilt")
        thing[0] = "spoilt"


class Answers(unittest.TestCase):
    def test_the_same_question_has_the_same_answer(self):
        asks = [question for web in made_webs(111, 25, most=8) for question in questions(web)]
        kept_asks = copy.deepcopy([question[1:] for question in asks])
        first = []
        for question in asks:
            told = answer(question)
            first.append(copy.deepcopy(told))
            spoil(told)
        self.assertEqual([question[1:] for question in asks], kept_asks)
        again = [answer(question) for question in reversed(asks)]
        self.assertEqual(again[::-1], first)

    def test_what_was_told_may_be_handed_in_again(self):
        for web in made_webs(112, 40, most=8, worth=10 ** 30):
            self.assertIs(webs.web_good(webs.turned_web(web)), True)
            self.assertIs(ways.rows_bound(web, 0, ways.bounding_rows(web, 0, 200)), True)
            ring, way = means.least_ring(web), ways.first_way(web, 0, 0, 40)
            if ring is not None:
                self.assertEqual(webs.ring_mean(web, ring), means.least_mean(web))
                self.assertIs(means.no_less(web, means.least_mean(web)), True)
                alike = means.least_mean(web) == means.greatest_mean(web)
                self.assertIs(means.no_less(web, means.greatest_mean(web)), alike)
            if way is not None:
                self.assertEqual(ways.way_worth(web, way), ways.least_way(web, 0, 0, 40))

    def test_shows_may_be_handed_in_again(self):
        for web in made_webs(113, 40, most=8, worth=10 ** 30):
            mean = means.least_mean(web)
            for bound in [(-(10 ** 31), 3)] + ([] if mean is None else [mean]):
                numbers = shows.shows_for(web, bound)
                self.assertIs(shows.shows_good(web, bound, numbers), True)
                reached = shows.bound_of(web, numbers)
                if reached is not None:
                    self.assertIs(shows.shows_good(web, reached, numbers), True)
                    self.assertIs(means.no_less(web, reached), True)
                    self.assertIs(shows.shows_good(web, reached, shows.shows_for(web, reached)), True)
                    self.assertEqual(len(shows.far_numbers(web, reached, 0)), web[0])
            if mean is not None:
                ring, numbers = shows.mean_paper(web)
                self.assertIs(shows.mean_paper_good(web, (ring, numbers)), True)
                self.assertEqual(webs.ring_mean(web, ring), mean)
                self.assertLessEqual(set(tight.core_arrows(web)), set(tight.tight_arrows(web, numbers)))
                core = webs.web_of(web[0], list(tight.core_arrows(web)))
                self.assertEqual(tight.core_groups(core), tight.core_groups(web))
                self.assertEqual(means.greatest_mean(core), mean)

    def test_ratios_may_be_handed_in_again(self):
        for web in made_webs(114, 40, most=8, worth=10 ** 30):
            spans = tuple(1000 - 7 * at for at in range(len(web[1])))
            least, paper = ratios.least_ratio(web, spans), ratios.ratio_paper(web, spans)
            if least is None:
                continue
            self.assertEqual(ratios.ring_ratio(web, spans, ratios.ratio_ring(web, spans)), least)
            self.assertIs(ratios.ratio_paper_good(web, spans, paper), True)
            self.assertEqual(ratios.ratio_bound_of(web, spans, paper[1]), least)
            # Numbers that show a bound by spans show some bound without them, too, and that may be asked for.
            self.assertIs(shows.shows_good(web, shows.bound_of(web, paper[1]), paper[1]), True)
            self.assertIs(ratios.ratio_shows_good(web, spans, least, ratios.ratio_shows_for(web, spans, least)), True)
            numbers = shows.shows_for(web, means.least_mean(web))
            bound = ratios.ratio_bound_of(web, spans, numbers)
            self.assertIs(ratios.ratio_shows_good(web, spans, bound, numbers), True)
            self.assertIsNotNone(ratios.ratio_shows_for(web, spans, bound))

    def test_rows_may_be_handed_in_again(self):
        for web in made_webs(115, 40, most=8, worth=10 ** 30):
            row = rows.row_far(web, (0,) * web[0], 10 ** 18)
            far = rows.row_far(web, row, 10 ** 18)
            self.assertEqual(rows.row_far(web, rows.row_led(web, row), 10 ** 18), rows.row_led(web, far))
            told = rows.round_of(web, far, 40)
            if told is not None:
                self.assertIs(rows.round_good(web, far, told), True)
            for listed in means.mean_rows(web):
                self.assertEqual(len(rows.row_led(web, tuple(listed))), web[0])
            for bounding in ways.bounding_rows(web, 0, 200)[::50]:
                self.assertEqual(rows.row_far(web, bounding, 1), rows.row_led(web, bounding))


if __name__ == "__main__":
    unittest.main()
