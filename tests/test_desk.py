"""10.2 to 10.4: a desk's deeds, questions and refusals."""

import copy
import random
import unittest
from fractions import Fraction

from material import BIG, odd_things, quick_rings, raised, slow_mean, slow_rows
from meanrings.desk import Desk
from meanrings.errors import NoArrow, NoNumber, NoPlace, NoRing, NoRow, NoWeb, TooGreat

FAR = 10 ** 18
START = ["fresh 3", "arrow 0 1 5", "arrow 1 2 -3", "arrow 2 0 1", "arrow 2 1 2"]
START_SHOWN = "web 3 4 ; arrow 0 1 5 ; arrow 1 2 -3 ; arrow 2 0 1 ; arrow 2 1 2"
# Each word with a letter for each number behind it.
FORMS = {
    "fresh": "N", "arrow": "PQW", "cut": "PQ", "turn": "", "scale": "NW", "back": "", "arrows": "", "mean": "",
    "greatest": "", "first": "", "core": "", "groups": "", "way": "PQN", "fall": "PQ", "without": "PQ", "till": "PQ",
    "led": "N", "shown": "",
}
NO_NUMBERS = [
    "", "a", "-", "+", "--1", "+1", "+0", "-0", "00", "01", "-01", "0x1", "1e1", "1.0", "1_0", "1,0", "1-", "one",
    "none", "1/1", "\t1", "1\t", "1\n", "\n1", "1\r", "\u0661", "\u00b2", "9" * 61, "0" * 60, "-" + "9" * 61,
    "9" * 5000, "-" + "9" * 5000,
]


def desk_behind(rows):
    desk = Desk()
    for row in rows:
        assert desk.say(row) == "ok", row
    return desk


def fields(desk, row):
    """The class and the fields of the refusal of a row; looks that it changed nothing."""
    kept, before = copy.deepcopy(row), desk.say("shown")
    error = raised(lambda: desk.say(row))
    assert repr(row) == repr(kept) and desk.say("shown") == before
    return (type(error), {} if error is None else vars(error))


def shown_fraction(number):
    return "none" if number is None else str(number)


class SlowDesk:
    """Answers by the deeds that stand, told anew for each question; all rings are gone through."""

    def __init__(self):
        self.deeds = []

    def deed(self, row):
        """Whether the deed is done."""
        if row == "back":
            if not self.deeds:
                return False
            self.deeds.pop()
            return True
        self.deeds.append(row)
        if self.web() is None:
            self.deeds.pop()
            return False
        return True

    def web(self):
        """The web behind all deeds, None where one is refused."""
        many, arrows = 1, {}
        for row in self.deeds:
            word, *numbers = row.split(" ")
            numbers = [int(number) for number in numbers]
            if word == "fresh":
                many, arrows = numbers[0], {}
            elif word == "turn":
                arrows = {(other, one): worth for (one, other), worth in arrows.items()}
            elif word == "scale":
                arrows = {pair: worth * numbers[0] + numbers[1] for pair, worth in arrows.items()}
            elif max(numbers[:2]) >= many or (word == "cut" and tuple(numbers[:2]) not in arrows):
                return None
            elif word == "cut":
                del arrows[tuple(numbers)]
            else:
                arrows[tuple(numbers[:2])] = numbers[2]
            worths = [abs(worth) for worth in arrows.values()]
            if not 1 <= many <= 8 or len(arrows) > 24 or max(worths, default=0) > BIG:
                return None
        return (many, tuple(sorted((*pair, worth) for pair, worth in arrows.items())))

    def answers(self):
        """Questions with their answers, None where they are refused."""
        web = self.web()
        many, arrows = web
        rings = quick_rings(web)
        least = min((slow_mean(web, ring) for ring in rings), default=None)
        greatest = max((slow_mean(web, ring) for ring in rings), default=None)
        core = [ring for ring in rings if slow_mean(web, ring) == least]
        told = {
            "arrows": " ".join(f"{one}>{other}={worth}" for one, other, worth in arrows) or "none",
            "mean": shown_fraction(least), "greatest": shown_fraction(greatest),
            "first": None if many > 6 else " ".join(map(str, core[0])) if core else "none",
            "core": " ".join(map(str, sorted(set().union(*core)))) if core else None,
            "groups": " ".join("-".join(map(str, group)) for group in self.groups(web)),
            "shown": " ; ".join([f"web {many} {len(arrows)}"] + ["arrow {} {} {}".format(*arrow) for arrow in arrows]),
        }
        for k in (0, 1, 5):
            told[f"led {k}"] = " ".join(self.led(web, k))
            for other in range(many):
                worth = slow_rows(web, 0, k)[k].get(other)
                told[f"way 0 {other} {k}"] = "none" if worth is None else str(worth)
        for one in range(many):
            for other in range(many):
                told.update(self.of_arrow(web, rings, least, one, other))
        return told

    def groups(self, web):
        reach = [[one == other for other in range(web[0])] for one in range(web[0])]
        for step in range(web[0]):
            for one, other, worth in web[1]:
                for row in reach:
                    row[other] = row[other] or row[one]
        groups = {
            tuple(other for other in range(web[0]) if reach[one][other] and reach[other][one]) for one in range(web[0])
        }
        return sorted(groups)

    def led(self, web, k):
        row = [0] * web[0]
        for step in range(k):
            row = [min(
                (row[one] + worth for one, other, worth in web[1] if other == place and row[one] is not None),
                default=None,
            ) for place in range(web[0])]
        return ["none" if number is None else str(number) for number in row]

    def of_arrow(self, web, rings, least, one, other):
        names = [f"{word} {one} {other}" for word in ("fall", "without", "till")]
        if (one, other) not in [arrow[:2] for arrow in web[1]]:
            return {name: None for name in names}
        along = [ring for ring in rings if (one, other) in zip(ring, ring[1:] + ring[:1])]
        without = min((slow_mean(web, ring) for ring in rings if ring not in along), default=None)
        fall = min(((slow_mean(web, ring) - least) * len(ring) for ring in along), default=None)
        till = None if without is None else max(
            [Fraction(0)] + [(without - slow_mean(web, ring)) * len(ring) for ring in along]
        )
        return dict(zip(names, map(shown_fraction, (fall, without, till))))


class Deeds(unittest.TestCase):
    def test_at_first(self):
        self.assertEqual(Desk().say("shown"), "web 1 0")

    def test_fresh(self):
        desk = desk_behind(START)
        for many in range(1, 9):
            self.assertEqual(desk.say(f"fresh {many}"), "ok")
            self.assertEqual(desk.say("shown"), f"web {many} 0")
        for many in ("0", "9", "10", "9" * 60, "1" + "0" * 59):
            self.assertEqual(fields(desk, f"fresh {many}"), (NoWeb, {"number": -1}), many)

    def test_arrow(self):
        desk = desk_behind(START)
        self.assertEqual(desk.say("shown"), START_SHOWN)
        self.assertEqual(desk.say("arrow 2 1 -7"), "ok")
        self.assertEqual(desk.say("arrows"), "0>1=5 1>2=-3 2>0=1 2>1=-7")
        self.assertEqual(desk.say("arrow 1 1 0"), "ok")
        self.assertEqual(desk.say("arrows"), "0>1=5 1>1=0 1>2=-3 2>0=1 2>1=-7")
        for row in (
            "arrow 3 0 1", "arrow 0 3 1", f"arrow {'9' * 60} 0 1", f"arrow 0 {'9' * 60} 1", f"arrow 3 0 {BIG + 1}",
        ):
            self.assertEqual(fields(desk, row), (NoPlace, {}), row)
        for worth in (BIG + 1, -BIG - 1, 10 ** 60 - 1, 1 - 10 ** 60):
            self.assertEqual(fields(desk, f"arrow 0 1 {worth}"), (NoNumber, {}), worth)
        for worth in (BIG, -BIG):
            self.assertEqual(desk.say(f"arrow 0 0 {worth}"), "ok")
            self.assertTrue(desk.say("arrows").startswith(f"0>0={worth} 0>1"))

    def test_the_twenty_fifth(self):
        desk = desk_behind(["fresh 8"] + [f"arrow {one} {other} 4" for one in range(8) for other in range(3)])
        self.assertEqual(fields(desk, "arrow 0 3 4"), (TooGreat, {"many": 25, "most": 24}))
        self.assertEqual(fields(desk, f"arrow 0 3 {BIG + 1}"), (NoNumber, {}))
        self.assertEqual(fields(desk, f"arrow 0 8 {BIG + 1}"), (NoPlace, {}))
        self.assertEqual(desk.say("arrow 0 2 5"), "ok")
        self.assertEqual(desk.say("cut 7 2"), "ok")
        self.assertEqual(desk.say("arrow 0 3 4"), "ok")

    def test_cut(self):
        desk = desk_behind(START)
        for row in ("cut 3 0", "cut 0 3", "cut 7 7", f"cut 0 {'9' * 60}"):
            self.assertEqual(fields(desk, row), (NoPlace, {}), row)
        for row in ("cut 0 0", "cut 0 2", "cut 1 0"):
            self.assertEqual(fields(desk, row), (NoArrow, {}), row)
        self.assertEqual(desk.say("cut 1 2"), "ok")
        self.assertEqual(desk.say("arrows"), "0>1=5 2>0=1 2>1=2")
        self.assertEqual(fields(desk, "cut 1 2"), (NoArrow, {}))
        for row in ("cut 0 1", "cut 2 0", "cut 2 1"):
            self.assertEqual(desk.say(row), "ok")
        self.assertEqual(desk.say("arrows"), "none")

    def test_turn(self):
        desk = desk_behind(START + ["turn"])
        self.assertEqual(desk.say("arrows"), "0>2=1 1>0=5 1>2=2 2>1=-3")
        self.assertEqual(desk.say("turn"), "ok")
        self.assertEqual(desk.say("shown"), START_SHOWN)
        self.assertEqual(desk_behind(["turn"]).say("shown"), "web 1 0")

    def test_scale(self):
        desk = desk_behind(START + ["scale 3 -1"])
        self.assertEqual(desk.say("arrows"), "0>1=14 1>2=-10 2>0=2 2>1=5")
        self.assertEqual(desk.say("scale 1 0"), "ok")
        self.assertEqual(desk.say("arrows"), "0>1=14 1>2=-10 2>0=2 2>1=5")
        for row in (
            "scale 0 0", "scale 1000001 0", f"scale 1 {10 ** 12 + 1}", f"scale 1 {-10 ** 12 - 1}",
            f"scale {'9' * 60} 0", f"scale 1 {'9' * 60}", f"scale 1 -{'9' * 60}",
        ):
            self.assertEqual(fields(desk, row), (NoNumber, {}), row)
        desk = desk_behind([f"arrow 0 0 {-BIG}"])
        self.assertEqual(desk.say(f"scale 1 {10 ** 12}"), "ok")
        self.assertEqual(desk.say(f"scale 1 {-10 ** 12}"), "ok")
        self.assertEqual(fields(desk, "scale 1 -1"), (TooGreat, {"many": BIG + 1, "most": BIG}))
        self.assertEqual(fields(desk, "scale 1000000 -7"), (TooGreat, {"many": 10 ** 36 + 7, "most": BIG}))
        self.assertEqual(fields(desk, "scale 0 -1"), (NoNumber, {}))
        self.assertEqual(Desk().say(f"scale 1000000 {10 ** 12}"), "ok")


class Back(unittest.TestCase):
    def test_nothing_stands(self):
        desk = Desk()
        self.assertEqual(fields(desk, "back"), (NoRow, {}))
        desk.say("mean")
        self.assertEqual(fields(desk, "back"), (NoRow, {}))
        self.assertEqual(fields(desk, "cut 0 0"), (NoArrow, {}))
        self.assertEqual(fields(desk, "back"), (NoRow, {}))

    def test_behind_each_deed(self):
        rows = START + ["arrow 0 1 9", "arrow 0 1 9", "turn", "turn", "cut 2 1", "scale 1 0", "scale 2 5", "fresh 4",
                        "fresh 4", "turn", "arrow 3 3 1"]
        desk, shown = Desk(), [Desk().say("shown")]
        for row in rows:
            self.assertEqual(desk.say(row), "ok")
            shown.append(desk.say("shown"))
        for at in reversed(range(len(rows))):
            self.assertEqual(desk.say("back"), "ok")
            self.assertEqual(desk.say("shown"), shown[at])
        for again in range(3):
            self.assertEqual(fields(desk, "back"), (NoRow, {}))
        self.assertEqual(desk.say("arrow 0 0 3"), "ok")
        self.assertEqual(desk.say("back"), "ok")
        self.assertEqual(desk.say("shown"), "web 1 0")

    def test_back_is_not_undone_by_back(self):
        desk = desk_behind(["fresh 2", "fresh 3", "fresh 4", "back", "back"])
        self.assertEqual(desk.say("shown"), "web 2 0")
        self.assertEqual(desk.say("fresh 5"), "ok")
        self.assertEqual(desk.say("back"), "ok")
        self.assertEqual(desk.say("shown"), "web 2 0")

    def test_behind_a_refused_deed(self):
        for row, error in (
            ("arrow 5 0 1", NoPlace), (f"arrow 0 0 {BIG + 1}", NoNumber), ("cut 0 0", NoArrow), ("fresh 9", NoWeb),
            ("scale 0 0", NoNumber), ("arrow", NoRow), ("back 1", NoRow), ("till 0 0", NoArrow),
        ):
            desk = desk_behind(START)
            self.assertIs(fields(desk, row)[0], error, row)
            self.assertEqual(desk.say("back"), "ok")
            self.assertEqual(desk.say("shown"), "web 3 3 ; arrow 0 1 5 ; arrow 1 2 -3 ; arrow 2 0 1")


class Questions(unittest.TestCase):
    def answered(self, desk, answers):
        for row, answer in answers.items():
            self.assertEqual(desk.say(row), answer, row)

    def test_a_new_desk(self):
        desk = Desk()
        self.answered(desk, {
            "arrows": "none", "mean": "none", "greatest": "none", "first": "none", "groups": "0", "way 0 0 0": "0",
            "way 0 0 1": "none", "way 0 0 1000000000000": "none", "led 0": "0", "led 1": "none", f"led {FAR}": "none",
            "shown": "web 1 0",
        })
        self.assertEqual(fields(desk, "core"), (NoRing, {}))
        for word in ("fall", "without", "till"):
            self.assertEqual(fields(desk, f"{word} 0 0"), (NoArrow, {}))
            self.assertEqual(fields(desk, f"{word} 0 1"), (NoPlace, {}))
            self.assertEqual(fields(desk, f"{word} 1 0"), (NoPlace, {}))

    def test_behind_deeds(self):
        self.answered(desk_behind(START), {
            "arrows": "0>1=5 1>2=-3 2>0=1 2>1=2", "mean": "-1/2", "greatest": "1", "first": "1 2", "core": "1 2",
            "groups": "0-1-2", "way 0 2 4": "1", "way 0 0 1": "none", "way 0 2 1000000000000": "-499999999997",
            "fall 2 0": "9/2", "fall 1 2": "0", "fall 0 1": "9/2", "without 2 1": "1", "without 1 2": "none",
            "without 0 1": "-1/2", "till 2 1": "3", "till 0 1": "0", "till 1 2": "none", "led 3": "0 1 -4",
            "shown": START_SHOWN,
        })

    def test_groups_and_none(self):
        desk = desk_behind(["fresh 7", "arrow 0 5 1", "arrow 5 0 1", "arrow 5 2 -4", "arrow 2 3 0"])
        self.answered(desk, {
            "groups": "0-5 1 2 3 4 6", "led 1": "1 none -4 0 none 1 none", "led 2": "2 none -3 -4 none 2 none",
            "fall 5 2": "none", "fall 0 5": "0", "without 5 2": "1", "without 5 0": "none", "till 5 0": "none",
            "till 5 2": "0", "mean": "1", "core": "0 5",
        })
        self.assertEqual(fields(desk, "first"), (TooGreat, {"many": 7, "most": 6}))

    def test_first(self):
        desk = desk_behind(["fresh 7"])
        self.assertEqual(fields(desk, "first"), (TooGreat, {"many": 7, "most": 6}))
        desk = desk_behind(["fresh 6", "arrow 3 5 1", "arrow 5 4 1", "arrow 4 3 1", "arrow 5 5 1", "arrow 0 0 2"])
        self.assertEqual(desk.say("first"), "3 5 4")
        self.assertEqual(desk.say("core"), "3 4 5")
        self.assertEqual(desk.say("mean"), "1")
        self.assertEqual(desk.say("greatest"), "2")

    def test_way_is_refused(self):
        desk = desk_behind(START)
        for row in ("way 3 0 1", "way 0 3 1", f"way 3 0 {'9' * 60}", f"way {'9' * 60} 0 1"):
            self.assertEqual(fields(desk, row), (NoPlace, {}), row)
        for k in (10 ** 12 + 1, 10 ** 60 - 1):
            self.assertEqual(fields(desk, f"way 0 1 {k}"), (NoNumber, {}), k)

    def test_arrows_that_are_asked_for_are_refused(self):
        desk = desk_behind(START)
        for word in ("fall", "without", "till"):
            for pair in ("0 3", "3 0", "3 3", "9 0", "0 " + "9" * 60):
                self.assertEqual(fields(desk, f"{word} {pair}"), (NoPlace, {}), pair)
            for pair in ("0 0", "1 0", "0 2", "2 2"):
                self.assertEqual(fields(desk, f"{word} {pair}"), (NoArrow, {}), pair)

    def test_core_is_refused(self):
        self.assertEqual(fields(desk_behind(["fresh 8", "arrow 0 7 1"]), "core"), (NoRing, {}))

    def test_led(self):
        desk = desk_behind(["fresh 2", "arrow 0 0 -3", "arrow 0 1 4"])
        self.assertEqual(desk.say("led 0"), "0 0")
        self.assertEqual(desk.say("led 1"), "-3 4")
        self.assertEqual(desk.say(f"led {FAR}"), f"{-3 * FAR} {7 - 3 * FAR}")
        for steps in (FAR + 1, 10 ** 60 - 1):
            self.assertEqual(fields(desk, f"led {steps}"), (NoNumber, {}), steps)
        self.assertEqual(desk_behind(["fresh 3"]).say("led 0"), "0 0 0")
        self.assertEqual(desk_behind(["fresh 3"]).say(f"led {FAR}"), "none none none")

    def test_great_worths(self):
        desk = desk_behind(["fresh 2", f"arrow 0 1 {BIG}", f"arrow 1 0 {1 - BIG}", f"arrow 1 1 {-BIG}"])
        self.answered(desk, {
            "mean": f"{-BIG}", "greatest": "1/2", "till 1 1": f"{2 * BIG + 1}/2", "fall 0 1": f"{2 * BIG + 1}",
            "way 1 1 1000000000000": f"{-BIG * 10 ** 12}", "without 1 1": "1/2",
        })


class NoRows(unittest.TestCase):
    def refused(self, row):
        for desk in (Desk(), desk_behind(START)):
            self.assertEqual(fields(desk, row), (NoRow, {}), row)

    def test_no_text(self):
        for thing in odd_things() + [["turn"], ("turn",), {"turn": "turn"}, b"turn"]:
            self.refused(thing)

    def test_other_words(self):
        for row in (
            "", " ", "  ", "\n", "web 3 4", "web 1 0", "Mean", "MEAN", "means", "mea", "mean ", " mean", "mean\n",
            "\nmean", "mean\nmean", "mean\t", "mean;", "none", "ok", "back\nback", "turn\n", "arrow 0 0\n1",
            "arrow 0 0 1\n", "arrow\n0 0 1", "arrows\n0 0 1", "shown ; shown", "fresh 2\narrow 0 1 1", "led 1\n",
            "undo", "say", "kept", "0",
        ):
            self.refused(row)

    def test_another_number_of_words(self):
        for word, form in FORMS.items():
            for many in range(0, 6):
                for number in ("0", "1", "-1", "9" * 60, "x"):
                    row = " ".join([word] + [number] * many)
                    if many != len(form):
                        self.refused(row)
                        self.refused(row + " ")

    def test_numbers_written_otherwise(self):
        for word, form in FORMS.items():
            for at, letter in enumerate(form):
                for number in NO_NUMBERS + ([] if letter == "W" else ["-1", "-9", "-" + "9" * 60]):
                    numbers = ["0"] * len(form)
                    numbers[at] = number
                    self.refused(" ".join([word] + numbers))
                    # It goes ahead of what else is due for numbers that are too great.
                    numbers = ["9" * 60] * len(form)
                    numbers[at] = number
                    self.refused(" ".join([word] + numbers))

    def test_blanks(self):
        for word, form in FORMS.items():
            words = [word] + ["0"] * len(form)
            for at in range(1, len(words)):
                self.refused(" ".join(words[:at]) + "  " + " ".join(words[at:]))
                self.refused(" ".join(words[:at]) + "\t" + " ".join(words[at:]))
                self.refused(" ".join(words[:at]) + "\n" + " ".join(words[at:]))
            self.refused(" " + " ".join(words))
            self.refused(" ".join(words) + " ")
            self.refused(" ".join(words) + "\n")

    def test_sixty_figures(self):
        desk = desk_behind(START)
        for row, error in (
            ("fresh {}", NoWeb), ("arrow {} 0 0", NoPlace), ("arrow 0 {} 0", NoPlace), ("arrow 0 0 {}", NoNumber),
            ("arrow 0 0 -{}", NoNumber), ("cut {} 0", NoPlace), ("scale {} 0", NoNumber), ("scale 1 -{}", NoNumber),
            ("way 0 0 {}", NoNumber), ("led {}", NoNumber), ("till 0 {}", NoPlace),
        ):
            self.assertIs(fields(desk, row.format("9" * 60))[0], error, row)
            self.assertIs(fields(desk, row.format("1" + "0" * 59))[0], error, row)
            self.assertIs(fields(desk, row.format("9" * 61))[0], NoRow, row)
            self.assertIs(fields(desk, row.format("1" + "0" * 60))[0], NoRow, row)


class Told(unittest.TestCase):
    """10.4: what a desk answers hangs on the deeds that stand alone."""

    def some_deed(self, source, many):
        # One may be just beyond the places of the web, so that the deed is refused.
        one, other = source.randrange(many + 1), source.randrange(many)
        worth = source.choice([source.randint(-5, 5), source.randint(-BIG, BIG)])
        by, more = source.choice([1, 2, 7, 10 ** 6]), source.choice([-3, 0, 1, 10 ** 12])
        deeds = [f"arrow {one} {other} {worth}"] * 24 + [f"cut {one} {other}"] * 4
        deeds.extend([f"scale {by} {more}"] * 2 + ["back"] * 4 + ["turn"] * 3)
        return source.choice(deeds + [f"fresh {source.choice([0, 2, 3, 4, 5, 7, 8, 9])}"])

    def test_made_rows(self):
        source = random.Random(801)
        desks = [(Desk(), SlowDesk()) for at in range(6)]
        refused = 0
        for desk, slow in desks:
            self.assertEqual(desk.say("fresh 4"), "ok")
            self.assertTrue(slow.deed("fresh 4"))
        for step in range(450):
            desk, slow = desks[source.randrange(6)]
            row = self.some_deed(source, slow.web()[0])
            done = slow.deed(row)
            told = []
            error = raised(lambda: told.append(desk.say(row)))
            self.assertEqual(told, ["ok"] if done else [], row)
            self.assertIs(error is None, done)
            refused += not done
            if step % 9 == 0:
                self.looked_at(desk, slow)
        self.assertGreater(refused, 20)

    def looked_at(self, desk, slow):
        for row, answer in slow.answers().items():
            if answer is None:
                self.assertIsNotNone(raised(lambda: desk.say(row)), row)
            else:
                self.assertEqual(desk.say(row), answer, row)

    def test_two_desks_in_turn(self):
        one, other = Desk(), Desk()
        for row in START:
            self.assertEqual(one.say(row), "ok")
            self.assertEqual(other.say("shown"), "web 1 0")
        self.assertEqual(other.say("fresh 8"), "ok")
        self.assertEqual(one.say("shown"), START_SHOWN)
        self.assertEqual(one.say("back"), "ok")
        self.assertEqual(other.say("shown"), "web 8 0")
        self.assertEqual(other.say("back"), "ok")
        self.assertEqual(fields(other, "back"), (NoRow, {}))
        self.assertEqual(one.say("shown"), "web 3 3 ; arrow 0 1 5 ; arrow 1 2 -3 ; arrow 2 0 1")
        self.assertEqual(Desk().say("shown"), "web 1 0")

    def test_say_stands_in_the_class_itself(self):
        self.assertIn("say", vars(Desk))


if __name__ == "__main__":
    unittest.main()
