"""0.2: what was told is the asker's own, and the same question has the same answer."""

import copy
import unittest

from material import made_webs, raised
from meanrings import means, ways, webs


def questions(web):
    """One question or more for each function that asks of a web."""
    last = web[0] - 1
    asks = [
        (webs.web_good, web), (webs.web_of, web[0], list(web[1])), (webs.turned_web, web), (webs.groups_of, web),
        (webs.arrows_from, web, last), (webs.arrows_to, web, last), (webs.worth_of, web, 0, last),
        (webs.ring_good, web, (0,)), (webs.rings_of, web), (webs.ring_worth, web, (0,)), (webs.ring_mean, web, (0,)),
        (ways.way_good, web, (0, last)), (ways.way_worth, web, (0, last)), (ways.way_table, web, 0),
        (ways.way_table, web, 5), (ways.way_table, web, 10 ** 12), (ways.bounding_rows, web, 0, 9),
        (ways.rows_bound, web, 0, ways.bounding_rows(web, 0, 9)), (means.least_mean, web), (means.greatest_mean, web),
        (means.least_ring, web), (means.first_least, web), (means.mean_rows, web), (means.no_less, web, (0, 1)),
    ]
    for ask in (ways.least_way, ways.least_upto, ways.first_way):
        asks.extend([(ask, web, 0, last, k) for k in (0, 1, 40)])
    return asks


def answer(question):
    told = []
    error = raised(lambda: told.append(question[0](*question[1:])))
    return (type(error), vars(error)) if error is not None else told[0]


def spoil(thing):
    """Changes all lists that are told, those within them first."""
    if isinstance(thing, (list, tuple)):
        for part in thing:
            spoil(part)
    if isinstance(thing, list):
        thing.append("spoilt")
        thing[0] = "spoilt"


class Answers(unittest.TestCase):
    def test_the_same_question_has_the_same_answer(self):
        asks = [question for web in made_webs(111, 25, most=8) for question in questions(web)]
        kept_asks = copy.deepcopy([question[1:] for question in asks])
        first = []
        for question in asks:
            told = answer(question)
            first.append(copy.deepcopy(told))
            spoil(told)
        self.assertEqual([question[1:] for question in asks], kept_asks)
        again = [answer(question) for question in reversed(asks)]
        self.assertEqual(again[::-1], first)

    def test_what_was_told_may_be_handed_in_again(self):
        for web in made_webs(112, 40, most=8, worth=10 ** 30):
            self.assertIs(webs.web_good(webs.turned_web(web)), True)
            self.assertIs(ways.rows_bound(web, 0, ways.bounding_rows(web, 0, 200)), True)
            ring, way = means.least_ring(web), ways.first_way(web, 0, 0, 40)
            if ring is not None:
                self.assertEqual(webs.ring_mean(web, ring), means.least_mean(web))
                self.assertIs(means.no_less(web, means.least_mean(web)), True)
                alike = means.least_mean(web) == means.greatest_mean(web)
                self.assertIs(means.no_less(web, means.greatest_mean(web)), alike)
            if way is not None:
                self.assertEqual(ways.way_worth(web, way), ways.least_way(web, 0, 0, 40))


if __name__ == "__main__":
    unittest.main()
