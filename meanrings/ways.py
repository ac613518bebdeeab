"""Ways of so many arrows, and the least worths that they have."""

from meanrings.basics import is_whole, is_whole_within
from meanrings.errors import NoArrow, NoNumber
from meanrings.webs import check_place, places_good, turned_web, worth_along, worths_by_places

MOST_STEPS = 10 ** 12
MOST_STEPS_OF_A_WAY = 40
MOST_STEPS_OF_ROWS = 200


def check_steps(thing, most):
    """Refuses what is no number of arrows up to the most."""
    if not is_whole_within(thing, 0, most):
        raise NoNumber()


def way_good(web, thing):
    """Whether a thing is a way of the web."""
    return places_good(web, thing) and worth_along(web, thing) is not None


def way_worth(web, thing):
    """What the arrows of a way come to, each as often as it is gone."""
    if not way_good(web, thing):
        raise NoArrow()
    return worth_along(web, thing)


def arrow_table(web):
    """The worths of the arrows, a list of lists by places, None where there is no arrow."""
    worths = worths_by_places(web)
    return [[worths.get((one, other)) for other in range(web[0])] for one in range(web[0])]


def arrow_table_or_stay(web):
    """The table of ways of one arrow at most."""
    table = arrow_table(web)
    for place in range(web[0]):
        stay = table[place][place]
        table[place][place] = 0 if stay is None else min(0, stay)
    return table


def still_row(many, place):
    """The least worths of ways of no arrow from a place."""
    return [0 if other == place else None for other in range(many)]


def least_sum(row, column):
    """The least that two numbers at the same place come to, None where there are no two."""
    sums = [one + other for one, other in zip(row, column) if one is not None and other is not None]
    return min(sums, default=None)


def rows_joined(rows, table):
    """The rows led on by a table."""
    columns = [list(column) for column in zip(*table)]
    return [[least_sum(row, column) for column in columns] for row in rows]


def rows_far(rows, table, k):
    """The rows led on by a table k times, by tables of twice as many each time."""
    while k > 0:
        if k & 1:
            rows = rows_joined(rows, table)
        k //= 2
        if k > 0:
            table = rows_joined(table, table)
    return rows


def check_way(web, one, other, k, most):
    """Refuses what is no question of a way, in the order that is told."""
    check_place(web, one)
    check_place(web, other)
    check_steps(k, most)


def least_way(web, one, other, k):
    """The least worth of a way of just k arrows from one place to the other, None where there is none."""
    check_way(web, one, other, k, MOST_STEPS)
    return rows_far([still_row(web[0], one)], arrow_table(web), k)[0][other]


def least_upto(web, one, other, k):
    """The least worth of a way of k arrows at most from one place to the other, None where there is none."""
    check_way(web, one, other, k, MOST_STEPS)
    return rows_far([still_row(web[0], one)], arrow_table_or_stay(web), k)[0][other]


def way_table(web, k):
    """What least_way tells, a list of lists by places."""
    check_steps(k, MOST_STEPS)
    return rows_far([still_row(web[0], place) for place in range(web[0])], arrow_table(web), k)


def led_row(web, row):
    """The least worths one arrow on, by the places where they end."""
    led = [None] * len(row)
    for one, other, worth in web[1]:
        if row[one] is not None and (led[other] is None or row[one] + worth < led[other]):
            led[other] = row[one] + worth
    return led


def rows_led(web, row, k):
    """The row, and the k rows to which it is led on one by one."""
    rows = [row]
    for step in range(k):
        rows.append(led_row(web, rows[step]))
    return rows


def first_way(web, one, other, k):
    """The first way of those of k arrows that have the least worth, None where there is none."""
    check_way(web, one, other, k, MOST_STEPS_OF_A_WAY)
    # Turned about, the rows tell what is least from each place to the end.
    rows = rows_led(turned_web(web), still_row(web[0], other), k)
    if rows[k][one] is None:
        return None
    way = [one]
    for left in range(k, 0, -1):
        way.append(first_step(web, way[-1], rows[left][way[-1]], rows[left - 1]))
    return tuple(way)


def first_step(web, place, least, row):
    """The first place to which one goes on by an arrow such that arrow and row come to the least."""
    return min([
        other for one, other, worth in web[1]
        if one == place and row[other] is not None and worth + row[other] == least
    ])


def bounding_rows(web, place, k):
    """The least worths of ways from a place, a row for each number of arrows from 0 to k."""
    check_place(web, place)
    check_steps(k, MOST_STEPS_OF_ROWS)
    return tuple([tuple(row) for row in rows_led(web, still_row(web[0], place), k)])


def row_good(web, thing):
    """Whether a thing is a row with a whole number or None for each place."""
    if not isinstance(thing, tuple) or len(thing) != web[0]:
        return False
    return all(part is None or is_whole(part) for part in thing)


def row_bounds(web, row, after):
    """Whether what follows a row is bounded by it along each arrow."""
    for one, other, worth in web[1]:
        if row[one] is not None and (after[other] is None or after[other] > row[one] + worth):
            return False
    return True


def rows_bound(web, place, thing):
    """Whether a thing is rows that bound the ways from a place."""
    check_place(web, place)
    if not isinstance(thing, tuple) or len(thing) == 0:
        return False
    if not all(row_good(web, row) for row in thing):
        return False
    start = thing[0][place]
    if start is None or start > 0:
        return False
    return all(row_bounds(web, row, after) for row, after in zip(thing, thing[1:]))
