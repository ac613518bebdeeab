"""A desk that keeps a web: it is told deeds, which change the web, and questions of it."""

from meanrings.changes import may_fall, mean_without, rise_till, scaled_web, with_arrow, without_arrow
from meanrings.errors import NoNumber, NoRow
from meanrings.means import first_least, greatest_mean, least_mean
from meanrings.rows import row_far
from meanrings.texts import number_read, signed_read, web_shown
from meanrings.tight import core_places
from meanrings.ways import least_way
from meanrings.webs import groups_of, turned_web, web_of

FIRST_WEB = (1, ())
MOST_STEPS_LED = 10 ** 18

# A letter for each number that is due behind the word; only W may be below 0.
DEEDS = {"fresh": "N", "arrow": "PQW", "cut": "PQ", "turn": "", "scale": "NW", "back": ""}
QUESTIONS = {
    "arrows": "", "mean": "", "greatest": "", "first": "", "core": "", "groups": "", "shown": "",
    "way": "PQN", "fall": "PQ", "without": "PQ", "till": "PQ", "led": "N",
}


def row_read(row):
    """The word of a row and the numbers behind it; refuses what is no row that a desk is told."""
    if not isinstance(row, str):
        raise NoRow()
    words = row.split(" ")
    letters = DEEDS.get(words[0], QUESTIONS.get(words[0]))
    if letters is None or len(words) != len(letters) + 1:
        raise NoRow()
    numbers = [
        signed_read(word) if letter == "W" else number_read(word) for letter, word in zip(letters, words[1:])
    ]
    if None in numbers:
        raise NoRow()
    return [words[0]] + numbers


def web_behind(web, deed):
    """The web that a deed makes of a web."""
    match deed:
        case ["fresh", many]:
            return web_of(many, [])
        case ["arrow", one, other, worth]:
            return with_arrow(web, one, other, worth)
        case ["cut", one, other]:
            return without_arrow(web, one, other)
        case ["turn"]:
            return turned_web(web)
        case ["scale", by, more]:
            return scaled_web(web, by, more)


def words_shown(things):
    """Numbers and words with one blank between each two."""
    return " ".join(["none" if thing is None else str(thing) for thing in things]) if things else "none"


def fraction_shown(fraction):
    """A fraction, the top alone where the bottom is 1."""
    if fraction is None:
        return "none"
    top, bottom = fraction
    return str(top) if bottom == 1 else f"{top}/{bottom}"


def arrows_shown(web):
    """The arrows of a web."""
    return words_shown([f"{one}>{other}={worth}" for one, other, worth in web[1]])


def groups_shown(web):
    """The groups of a web."""
    return words_shown(["-".join([str(place) for place in group]) for group in groups_of(web)])


def led_shown(web, steps):
    """The row to which noughts alone are led by so many steps."""
    if steps > MOST_STEPS_LED:
        raise NoNumber()
    return words_shown(row_far(web, (0,) * web[0], steps))


def answer_of(web, question):
    """What is answered to a question of a web."""
    match question:
        case ["arrows"]:
            return arrows_shown(web)
        case ["mean"]:
            return fraction_shown(least_mean(web))
        case ["greatest"]:
            return fraction_shown(greatest_mean(web))
        case ["first"]:
            return words_shown(first_least(web))
        case ["core"]:
            return words_shown(core_places(web))
        case ["groups"]:
            return groups_shown(web)
        case ["shown"]:
            return web_shown(web).replace("\n", " ; ")
        case ["way", one, other, k]:
            return words_shown([least_way(web, one, other, k)])
        case ["fall", one, other]:
            return fraction_shown(may_fall(web, one, other))
        case ["without", one, other]:
            return fraction_shown(mean_without(web, one, other))
        case ["till", one, other]:
            return fraction_shown(rise_till(web, one, other))
        case ["led", steps]:
            return led_shown(web, steps)


class Desk:
    """A desk that keeps a web, at first of one place, without arrows."""

    def __init__(self):
        # The webs behind each deed that stands, so that the last one can be undone.
        self.kept = [FIRST_WEB]

    def say(self, row):
        """What the desk answers to a row."""
        told = row_read(row)
        if told[0] in QUESTIONS:
            return answer_of(self.kept[-1], told)
        if told[0] == "back":
            self.undo()
        else:
            self.kept.append(web_behind(self.kept[-1], told))
        return "ok"

    def undo(self):
        """Undoes the last deed that stands."""
        if len(self.kept) == 1:
            raise NoRow()
        self.kept.pop()
