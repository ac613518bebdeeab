"""0.2: what was told is the asker's own, and the same question has the same answer."""

import copy
import unittest

from material import leading_webs, made_webs, raised
from meanrings import changes, choices, means, ratios, rows, shows, texts, tight, ways, webs
from meanrings.desk import Desk


def questions(web):
    """One question or more for each function that asks of a web."""
    last = web[0] - 1
    asks = [
        (webs.web_good, web), (webs.web_of, web[0], list(web[1])), (webs.turned_web, web), (webs.groups_of, web),
        (webs.arrows_from, web, last), (webs.arrows_to, web, last), (webs.worth_of, web, 0, last),
        (webs.ring_good, web, (0,)), (webs.rings_of, web), (webs.ring_worth, web, (0,)), (webs.ring_mean, web, (0,)),
        (ways.way_good, web, (0, last)), (ways.way_worth, web, (0, last)), (ways.way_table, web, 0),
        (ways.way_table, web, 5), (ways.way_table, web, 10 ** 12), (ways.bounding_rows, web, 0, 9),
        (ways.rows_bound, web, 0, ways.bounding_rows(web, 0, 9)), (means.least_mean, web), (means.greatest_mean, web),
        (means.least_ring, web), (means.first_least, web), (means.mean_rows, web), (means.no_less, web, (0, 1)),
    ]
    for ask in (ways.least_way, ways.least_upto, ways.first_way):
        asks.extend([(ask, web, 0, last, k) for k in (0, 1, 40)])
    asks.extend(questions_of_bounds(web) + questions_of_ratios(web) + questions_of_rows(web))
    return asks + questions_of_changes(web) + questions_of_choices(web) + questions_of_texts(web)


def questions_of_bounds(web):
    last = web[0] - 1
    numbers = tuple((place, 3 * place + 1) for place in range(web[0]))
    asks = [(shows.bound_of, web, numbers), (shows.mean_paper, web), (shows.mean_paper_good, web, ((0,), numbers))]
    for bound in ((-4, 1), (1, 3), (5, 1)):
        asks.extend([
            (shows.shows_good, web, bound, numbers), (shows.shows_good, web, bound, [list(numbers)]),
            (shows.shows_for, web, bound), (shows.ring_under, web, bound), (shows.far_numbers, web, bound, last),
        ])
    asks.extend([(tight.tight_arrows, web, told) for told in (numbers, shows.shows_for(web, (-4, 1)))])
    asks.extend([(ask, web) for ask in (tight.core_places, tight.core_arrows, tight.core_groups, shows.mean_paper)])
    paper = shows.mean_paper(web)
    if paper is not None:
        asks.extend([(tight.tight_arrows, web, paper[1]), (shows.mean_paper_good, web, paper)])
    return asks


def questions_of_ratios(web):
    numbers = tuple((place, 3 * place + 1) for place in range(web[0]))
    asks = []
    for spans in (tuple(range(1, len(web[1]) + 1)), list(range(len(web[1])))):
        asks.extend([
            (ratios.ring_ratio, web, spans, (0,)), (ratios.least_ratio, web, spans), (ratios.ratio_ring, web, spans),
            (ratios.ratios_of, web, spans), (ratios.ratio_shows_good, web, spans, (-1, 2), numbers),
            (ratios.ratio_shows_for, web, spans, (-4, 1)), (ratios.ratio_bound_of, web, spans, numbers),
            (ratios.ratio_paper_good, web, spans, ((0,), numbers)), (ratios.ratio_paper, web, spans),
        ])
    return asks


def questions_of_rows(web):
    asks = []
    for row in ((0,) * web[0], (None,) * web[0], (None,) * (web[0] - 1) + (7,), [0] * web[0]):
        asks.extend([
            (rows.row_led, web, row), (rows.row_far, web, row, 0), (rows.row_far, web, row, 10 ** 18),
            (rows.round_good, web, row, (5, 6, 0)), (rows.round_good, web, row, [5, 6, 0]),
            (rows.round_of, web, row, 20),
        ])
    return asks


def questions_of_changes(web):
    asks = [
        (changes.scaled_web, web, 7, -2), (changes.scaled_web, web, [7], -2), (changes.shifted_web, web, [5] * web[0]),
        (changes.shifted_web, web, tuple(range(web[0]))),
    ]
    for one in (0, web[0] - 1):
        asks.extend([(changes.with_arrow, web, one, other, 9) for other in range(web[0])])
        for ask in (changes.without_arrow, changes.may_fall, changes.mean_without, changes.rise_till):
            asks.extend([(ask, web, one, other) for other in range(web[0])])
    return asks


def questions_of_choices(web):
    choice, numbers = (0,) * web[0], ((0, 1),) * web[0]
    asks = [(ask, web) for ask in (choices.best_means, choices.best_choice, choices.choices_many, choices.best_many)]
    asks.extend([(ask, web, told) for told in (choice, list(choice)) for ask in (
        choices.choice_good, choices.choice_rings, choices.choice_means,
    )])
    asks.extend([(choices.values_good, web, told) for told in ((numbers, numbers), [list(numbers), [numbers]])])
    return asks + [(choices.values_of, web)]


def questions_of_texts(web):
    text = texts.web_shown(web)
    rows_told = [f"fresh {web[0]}"] + text.split("\n")[1:]
    asked = ["shown", "mean", "led 9", "till 0 0", "back", "back", "back", "arrows", "groups", "core"]
    return [
        (texts.web_shown, web), (texts.web_read, text), (texts.web_read, text + "\n"), (texts.web_read, [text]),
        (desk_answers, rows_told + asked),
    ]


def desk_answers(rows_told):
    """What a new desk answers to rows, one by one."""
    desk = Desk()
    return [answer((desk.say, row)) for row in rows_told]


def answer(question):
    told = []
    error = raised(lambda: told.append(question[0](*question[1:])))
    return (type(error), vars(error)) if error is not None else told[0]


def spoil(thing):
    """Changes all lists that are told, those within them first."""
    if isinstance(thing, (list, tuple)):
        for part in thing:
            spoil(part)
    if isinstance(thing, list):
        thing.append("spoilt")
        thing[0] = "spoilt"


class Answers(unittest.TestCase):
    def test_the_same_question_has_the_same_answer(self):
        asks = [question for web in made_webs(111, 25, most=8) + leading_webs(118, 10) for question in questions(web)]
        kept_asks = copy.deepcopy([question[1:] for question in asks])
        first = []
        for question in asks:
            told = answer(question)
            first.append(copy.deepcopy(told))
            spoil(told)
        self.assertEqual([question[1:] for question in asks], kept_asks)
        again = [answer(question) for question in reversed(asks)]
        self.assertEqual(again[::-1], first)

    def test_what_was_told_may_be_handed_in_again(self):
        for web in made_webs(112, 40, most=8, worth=10 ** 30):
            self.assertIs(webs.web_good(webs.turned_web(web)), True)
            self.assertIs(ways.rows_bound(web, 0, ways.bounding_rows(web, 0, 200)), True)
            ring, way = means.least_ring(web), ways.first_way(web, 0, 0, 40)
            if ring is not None:
                self.assertEqual(webs.ring_mean(web, ring), means.least_mean(web))
                self.assertIs(means.no_less(web, means.least_mean(web)), True)
                alike = means.least_mean(web) == means.greatest_mean(web)
                self.assertIs(means.no_less(web, means.greatest_mean(web)), alike)
            if way is not None:
                self.assertEqual(ways.way_worth(web, way), ways.least_way(web, 0, 0, 40))

    def test_shows_may_be_handed_in_again(self):
        for web in made_webs(113, 40, most=8, worth=10 ** 30):
            mean = means.least_mean(web)
            for bound in [(-(10 ** 31), 3)] + ([] if mean is None else [mean]):
                numbers = shows.shows_for(web, bound)
                self.assertIs(shows.shows_good(web, bound, numbers), True)
                reached = shows.bound_of(web, numbers)
                if reached is not None:
                    self.assertIs(shows.shows_good(web, reached, numbers), True)
                    self.assertIs(means.no_less(web, reached), True)
                    self.assertIs(shows.shows_good(web, reached, shows.shows_for(web, reached)), True)
                    self.assertEqual(len(shows.far_numbers(web, reached, 0)), web[0])
            if mean is not None:
                ring, numbers = shows.mean_paper(web)
                self.assertIs(shows.mean_paper_good(web, (ring, numbers)), True)
                self.assertEqual(webs.ring_mean(web, ring), mean)
                self.assertLessEqual(set(tight.core_arrows(web)), set(tight.tight_arrows(web, numbers)))
                core = webs.web_of(web[0], list(tight.core_arrows(web)))
                self.assertEqual(tight.core_groups(core), tight.core_groups(web))
                self.assertEqual(means.greatest_mean(core), mean)

    def test_ratios_may_be_handed_in_again(self):
        for web in made_webs(114, 40, most=8, worth=10 ** 30):
            spans = tuple(1000 - 7 * at for at in range(len(web[1])))
            least, paper = ratios.least_ratio(web, spans), ratios.ratio_paper(web, spans)
            if least is None:
                continue
            self.assertEqual(ratios.ring_ratio(web, spans, ratios.ratio_ring(web, spans)), least)
            self.assertIs(ratios.ratio_paper_good(web, spans, paper), True)
            self.assertEqual(ratios.ratio_bound_of(web, spans, paper[1]), least)
            # Numbers that show a bound by spans show some bound without them, too, and that may be asked for.
            self.assertIs(shows.shows_good(web, shows.bound_of(web, paper[1]), paper[1]), True)
            self.assertIs(ratios.ratio_shows_good(web, spans, least, ratios.ratio_shows_for(web, spans, least)), True)
            numbers = shows.shows_for(web, means.least_mean(web))
            bound = ratios.ratio_bound_of(web, spans, numbers)
            self.assertIs(ratios.ratio_shows_good(web, spans, bound, numbers), True)
            self.assertIsNotNone(ratios.ratio_shows_for(web, spans, bound))

    def test_rows_may_be_handed_in_again(self):
        for web in made_webs(115, 40, most=8, worth=10 ** 30):
            row = rows.row_far(web, (0,) * web[0], 10 ** 18)
            far = rows.row_far(web, row, 10 ** 18)
            self.assertEqual(rows.row_far(web, rows.row_led(web, row), 10 ** 18), rows.row_led(web, far))
            told = rows.round_of(web, far, 40)
            if told is not None:
                self.assertIs(rows.round_good(web, far, told), True)
            for listed in means.mean_rows(web):
                self.assertEqual(len(rows.row_led(web, tuple(listed))), web[0])
            for bounding in ways.bounding_rows(web, 0, 200)[::50]:
                self.assertEqual(rows.row_far(web, bounding, 1), rows.row_led(web, bounding))

    def test_changed_webs_may_be_handed_in_again(self):
        for web in made_webs(116, 40, most=8, worth=10 ** 30, arrows=12):
            self.assertEqual(texts.web_read(texts.web_shown(web)), web)
            for one, other, worth in web[1]:
                less = changes.without_arrow(web, one, other)
                self.assertIs(webs.web_good(less), True)
                self.assertEqual(changes.with_arrow(less, one, other, worth), web)
                for told in (changes.may_fall(web, one, other), changes.rise_till(web, one, other)):
                    if told is not None:
                        self.assertIn(means.no_less(web, told), (True, False))
                mean = changes.mean_without(web, one, other)
                if mean is not None:
                    self.assertIs(means.no_less(less, mean), True)
                    self.assertIs(shows.shows_good(less, mean, shows.shows_for(less, mean)), True)

    def test_choices_may_be_handed_in_again(self):
        for web in leading_webs(117, 60, worth=10 ** 30):
            best, choice, values = choices.best_means(web), choices.best_choice(web), choices.values_of(web)
            self.assertEqual(choices.choice_means(web, choice), best)
            self.assertIs(choices.values_good(web, values), True)
            self.assertIs(choices.values_good(web, (tuple(best), values[1])), True)
            for ring, mean in zip(choices.choice_rings(web, choice), best):
                self.assertEqual(webs.ring_mean(web, ring), mean)
            # The numbers of values, whatever their means, are numbers that show some bound.
            reached = shows.bound_of(web, values[1])
            self.assertIs(shows.shows_good(web, reached, values[1]), True)
            self.assertIs(means.no_less(web, reached), True)

    def test_nothing_of_a_desk_is_changed_by_what_was_told(self):
        desk = Desk()
        for row in ("fresh 2", "arrow 0 1 3", "arrow 1 0 4"):
            desk.say(row)
        first = [desk.say(row) for row in ("shown", "mean", "led 7", "core")]
        self.assertEqual([desk.say(row) for row in ("shown", "mean", "led 7", "core")], first)


if __name__ == "__main__":
    unittest.main()
