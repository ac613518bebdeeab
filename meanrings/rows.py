"""Rows led on along the arrows, and the rounds in which they come again."""

from meanrings.basics import is_whole
from meanrings.errors import NoRow
from meanrings.ways import arrow_table, led_row, row_good, rows_far, rows_led


def check_row(web, thing):
    """Refuses what is no row of the web."""
    if not row_good(web, thing):
        raise NoRow()


def row_led(web, row):
    """The row to which a row is led on."""
    check_row(web, row)
    return tuple(led_row(web, row))


def row_far(web, row, steps):
    """The row to which a row is led by so many steps."""
    check_row(web, row)
    return tuple(rows_far([row], arrow_table(web), steps)[0])


def round_formed(thing):
    """Whether a thing is a tuple of a start, a lap and how much more."""
    if not isinstance(thing, tuple) or len(thing) != 3:
        return False
    return all(is_whole(part) for part in thing) and thing[0] >= 0 and thing[1] >= 1


def row_raised(row, more):
    """The row with each number so much greater."""
    return tuple([None if number is None else number + more for number in row])


def round_good(web, row, thing):
    """Whether a thing is a round of the row."""
    check_row(web, row)
    if not round_formed(thing):
        return False
    start, lap, more = thing
    begun = row_far(web, row, start)
    if all(number is None for number in begun):
        return more == 0
    return row_far(web, begun, lap) == row_raised(begun, more)


def least_number(row):
    """The least number of a row, 0 where it has none."""
    return min([number for number in row if number is not None], default=0)


def round_of(web, row, most):
    """The round of the least start, of the least lap by it, both together at most so many; None where there is none."""
    check_row(web, row)
    rows = rows_led(web, row, most)
    # Rows that differ by as much at each place are alike once their least numbers are taken off.
    shapes = [row_raised(led, -least_number(led)) for led in rows]
    for start in range(most):
        for lap in range(1, most - start + 1):
            if shapes[start + lap] == shapes[start]:
                return (start, lap, least_number(rows[start + lap]) - least_number(rows[start]))
    return None
