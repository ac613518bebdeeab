"""Webs written as texts."""

from meanrings.basics import is_whole_within
from meanrings.errors import NoText
from meanrings.webs import MOST_ARROWS, arrow_good, many_good

FIGURES = "0123456789"
MOST_FIGURES = 60


def number_read(word):
    """The number from 0 on that a word writes, None where it writes none."""
    # How long it is goes first: Python itself refuses to read numbers of very many figures.
    if not 1 <= len(word) <= MOST_FIGURES or not all(sign in FIGURES for sign in word):
        return None
    return None if word[0] == "0" and word != "0" else int(word)


def signed_read(word):
    """The number, perhaps below 0, that a word writes, None where it writes none."""
    if not word.startswith("-"):
        return number_read(word)
    number = number_read(word[1:])
    # A number that is not below 0 has no sign ahead.
    return -number if number else None


def web_shown(web):
    """The text that writes a web."""
    many, arrows = web
    rows = [f"web {many} {len(arrows)}"]
    rows.extend([f"arrow {one} {other} {worth}" for one, other, worth in arrows])
    return "\n".join(rows)


def head_read(row):
    """How many places and arrows the first row tells."""
    words = row.split(" ")
    if len(words) != 3 or words[0] != "web":
        raise NoText(1)
    many, count = number_read(words[1]), number_read(words[2])
    if not many_good(many) or not is_whole_within(count, 0, MOST_ARROWS):
        raise NoText(1)
    return (many, count)


def arrow_read(row):
    """The arrow that a row writes, with None for numbers that it does not write; None where it writes no arrow."""
    words = row.split(" ")
    if len(words) != 4 or words[0] != "arrow":
        return None
    return (number_read(words[1]), number_read(words[2]), signed_read(words[3]))


def web_read(text):
    """The web that a text writes."""
    if not isinstance(text, str):
        raise NoText(0)
    rows = text.split("\n")
    many, count = head_read(rows[0])
    arrows = []
    for number, row in enumerate(rows[1:], start=2):
        arrow = arrow_read(row)
        if len(arrows) == count or not arrow_good(many, arrow):
            raise NoText(number)
        # Places that rise by themselves leave no two arrows with both places alike.
        if arrows and arrow[:2] <= arrows[-1][:2]:
            raise NoText(number)
        arrows.append(arrow)
    if len(arrows) < count:
        raise NoText(len(rows) + 1)
    return (many, tuple(arrows))
