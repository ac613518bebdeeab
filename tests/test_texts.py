"""10.1: webs written as texts."""

import copy
import unittest

from material import BIG, made_webs, odd_things, raised
from meanrings.errors import NoText
from meanrings.texts import web_read, web_shown
from meanrings.webs import web_good

WEB = (3, ((0, 1, 5), (1, 2, -3), (2, 0, 0), (2, 2, 10)))
TEXT = "web 3 4\narrow 0 1 5\narrow 1 2 -3\narrow 2 0 0\narrow 2 2 10"
ROWS = TEXT.split("\n")
FULL = (8, tuple((one, other, 3 * one - other) for one in range(8) for other in range(3)))
# Words that write no number, wherever one is due.
NO_NUMBERS = [
    "", "a", "-", "+", "--1", "-+1", "+1", "+0", "-0", "-00", "00", "01", "007", "-01", "-007", "0x1", "1e1", "1.0",
    "1_0", "1,0", "0-1", "1-", "one", "None", "(1)", "1/1", "\t1", "1\t", "1\r", "\v1", "\u0661", "\uff11", "\u00b2",
    "9" * 61, "1" + "0" * 60, "0" * 60, "-" + "9" * 61, "-1" + "0" * 60, "9" * 5000, "-" + "9" * 5000, "0" * 5000,
    "web", "arrow",
]


def row_of(text):
    """The row at which a text is refused, None where it is read; looks that a thing handed in is not changed."""
    kept = copy.deepcopy(text)
    error = raised(lambda: web_read(text))
    assert repr(text) == repr(kept)
    assert error is None or type(error) is NoText and type(error.row) is int, error
    return None if error is None else error.row


def with_row(at, row):
    """The text with another row, from 1 on."""
    return "\n".join(ROWS[:at - 1] + [row] + ROWS[at:])


class Shown(unittest.TestCase):
    def both(self, web, text):
        self.assertEqual(web_shown(web), text)
        self.assertEqual(web_read(text), web)

    def test_ordinary(self):
        self.both(WEB, TEXT)
        self.both((1, ((0, 0, -1),)), "web 1 1\narrow 0 0 -1")

    def test_without_arrows(self):
        for many in range(1, 9):
            self.both((many, ()), f"web {many} 0")

    def test_twenty_four(self):
        self.both(FULL, "web 8 24\n" + "\n".join(f"arrow {one} {other} {worth}" for one, other, worth in FULL[1]))

    def test_worths_of_thirty_one_figures(self):
        noughts = "0" * 30
        self.both((2, ((0, 1, BIG), (1, 0, -BIG))), f"web 2 2\narrow 0 1 1{noughts}\narrow 1 0 -1{noughts}")

    def test_made_webs(self):
        for web in made_webs(701, 80, most=8) + made_webs(702, 40, most=8, worth=BIG):
            told = web_read(web_shown(web))
            self.assertIs(web_good(told), True)
            self.assertEqual(told, web)
            rows = web_shown(web).split("\n")
            self.assertEqual(rows[0].split(" "), ["web", str(web[0]), str(len(web[1]))])
            self.assertEqual([tuple(map(int, row.split(" ")[1:])) for row in rows[1:]], list(web[1]))


class NoTexts(unittest.TestCase):
    def test_what_is_no_text(self):
        for thing in odd_things() + [WEB, ROWS, [TEXT], (TEXT,), {TEXT: TEXT}, TEXT.encode()]:
            if not isinstance(thing, str):
                self.assertEqual(row_of(thing), 0, thing)

    def test_texts_that_write_none(self):
        for thing in odd_things():
            if isinstance(thing, str) and thing != "web 1 0":
                self.assertEqual(row_of(thing), 1, thing)
        for text in ("", "\n", "\n\n", " ", "\n" + TEXT, " " + TEXT, "~", "web", "web 3"):
            self.assertEqual(row_of(text), 1, text)

    def test_a_line_feed_at_the_end(self):
        self.assertEqual(row_of(TEXT + "\n"), 6)
        self.assertEqual(row_of(TEXT + "\n\n"), 6)
        self.assertEqual(row_of("web 1 0\n"), 2)
        self.assertEqual(row_of("web 1 1\n"), 2)
        self.assertEqual(row_of("web 2 2\narrow 0 1 5\n"), 3)

    def test_other_line_ends(self):
        for end in ("\r\n", "\r", "\v", "\f", "\x1c", "\x85", "\u2028", " ; "):
            self.assertEqual(row_of(TEXT.replace("\n", end)), 1, repr(end))
            self.assertEqual(row_of(with_row(3, ROWS[2] + end)), 3, repr(end))


class FirstRow(unittest.TestCase):
    def test_how_many(self):
        for many in range(1, 9):
            self.assertIsNone(row_of(f"web {many} 0"))
        for many in (0, 9, 10, 80, 10 ** 59, 10 ** 60 - 1):
            self.assertEqual(row_of(f"web {many} 0"), 1, many)
        for count in range(1, 25):
            # There are no such arrows of one place, but the row itself is well.
            self.assertEqual(row_of(f"web 1 {count}"), 2)
        for count in (25, 26, 240, 10 ** 59, 10 ** 60 - 1):
            self.assertEqual(row_of(f"web 8 {count}"), 1, count)

    def test_more_arrows_than_there_are_pairs(self):
        self.assertEqual(row_of("web 1 2\narrow 0 0 1\narrow 0 0 2"), 3)
        self.assertEqual(row_of("web 1 2\narrow 0 0 1"), 3)

    def test_words(self):
        for row in (
            "Web 3 4", "WEB 3 4", "wed 3 4", "arrow 3 4", "arrow 0 1 5", "3 4", "web 3", "web 3 4 5", "web 3 4 ",
            " web 3 4", "web  3 4", "web 3  4", "web\t3 4", "web 3\t4", "web 3 4\t", "web3 4", "web 34", "web -3 4",
            "web 3 -4", "web +3 4", "web 3 +4", "", " ", "web 3 4 arrow", "web 4 3 web",
        ):
            self.assertEqual(row_of(with_row(1, row)), 1, row)

    def test_no_numbers(self):
        for word in NO_NUMBERS + ["-1", "-3"]:
            self.assertEqual(row_of(with_row(1, f"web {word} 4")), 1, word)
            self.assertEqual(row_of(with_row(1, f"web 3 {word}")), 1, word)
            self.assertEqual(row_of(f"web 3 {word}"), 1, word)

    def test_goes_ahead_of_other_rows(self):
        self.assertEqual(row_of("web 9 1\narrow"), 1)
        self.assertEqual(row_of("web 9 1"), 1)
        self.assertEqual(row_of("web 3 25\narrow"), 1)


class ArrowRows(unittest.TestCase):
    def test_words(self):
        for at in range(2, 6):
            row = ROWS[at - 1]
            words = row.split(" ")
            bent = [
                row.upper(), row.title(), row + " ", " " + row, row + " 1", "arrow " + row, row[:-2], "web 3 4", "",
                " ", " ".join(words[1:]), " ".join(words[:3]), row.replace(" ", "\t"), row + "\t", "arrows" + row[5:],
                row + "\narrow", "".join(words), f"arrow {words[1]}>{words[2]}={words[3]}",
            ]
            bent.extend([" ".join(words[:k]) + "  " + " ".join(words[k:]) for k in (1, 2, 3)])
            bent.extend([" ".join(words[:k]) + "\t" + " ".join(words[k:]) for k in (1, 2, 3)])
            for other in bent:
                first = at + 1 if other == row + "\narrow" else at
                self.assertEqual(row_of(with_row(at, other)), first, other)

    def test_no_numbers(self):
        for at in range(2, 6):
            words = ROWS[at - 1].split(" ")
            for word in NO_NUMBERS:
                for k in (1, 2, 3):
                    row = " ".join(words[:k] + [word] + words[k + 1:])
                    self.assertEqual(row_of(with_row(at, row)), at, row)
            for k in (1, 2):
                row = " ".join(words[:k] + ["-1"] + words[k + 1:])
                self.assertEqual(row_of(with_row(at, row)), at, row)

    def test_what_no_web_has(self):
        for at in range(2, 6):
            words = ROWS[at - 1].split(" ")
            for k, word in (
                (1, "3"), (2, "3"), (1, "9" * 60), (2, "9" * 60), (3, str(BIG + 1)), (3, str(-BIG - 1)), (3, "9" * 60),
                (3, "-" + "9" * 60),
            ):
                row = " ".join(words[:k] + [word] + words[k + 1:])
                self.assertEqual(row_of(with_row(at, row)), at, row)
            for worth in (BIG, -BIG, 0, -1):
                row = " ".join(words[:3] + [str(worth)])
                self.assertEqual(web_read(with_row(at, row))[1][at - 2][2], worth)

    def test_rows_that_are_not_greater(self):
        for at in range(3, 6):
            ahead = ROWS[at - 2].split(" ")
            self.assertEqual(row_of(with_row(at, ROWS[at - 2])), at)
            for worth in ("-99", "99"):
                self.assertEqual(row_of(with_row(at, " ".join(ahead[:3] + [worth]))), at)
            self.assertEqual(row_of(with_row(at, "arrow 0 0 99")), at)
            for early in range(2, at):
                again = ROWS[early - 1].split(" ")
                self.assertEqual(row_of(with_row(at, " ".join(again[:3] + ["77"]))), at)
        self.assertEqual(row_of("web 2 2\narrow 1 0 1\narrow 0 1 9"), 3)
        self.assertEqual(row_of("web 2 2\narrow 0 1 1\narrow 0 0 9"), 3)
        self.assertIsNone(row_of("web 2 2\narrow 0 1 1\narrow 1 0 -9"))
        self.assertEqual(row_of("web 2 3\narrow 0 0 1\narrow 1 1 1\narrow 0 1 1"), 4)

    def test_too_few_and_too_many(self):
        for count in range(0, 25):
            for rows in range(0, 25):
                arrows = [f"arrow {one} {other} {worth}" for one, other, worth in FULL[1][:rows]]
                text = "\n".join([f"web 8 {count}"] + arrows)
                first = None if count == rows else rows + 2 if rows < count else count + 2
                self.assertEqual(row_of(text), first)

    def test_the_first_wrong_row_goes(self):
        self.assertEqual(row_of("web 3 1\narrow 0 1 x\narrow 0 2 1"), 2)
        self.assertEqual(row_of("web 3 1\narrow 0 1 1\narrow 0 2 x"), 3)
        self.assertEqual(row_of("web 3 4\narrow 0 1 1\narrow 0 2 x"), 3)
        self.assertEqual(row_of("web 3 4\narrow 0 1 1\narrow 0 3 1\narrow 0 1 1"), 3)
        self.assertEqual(row_of("web 3 0\nx\narrow 0 1 1"), 2)


if __name__ == "__main__":
    unittest.main()
