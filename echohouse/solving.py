"""Tables solved for an aim, their first rows, inverses, determinants and still rows."""

from echohouse.divisors import common, divided
from echohouse.errors import Flat
from echohouse.fracs import NOUGHT, frac
from echohouse.tables import applied, is_nought, is_row, product, raised, shared_bottom, turned, weighed


class Answer:
    """What is told of a table and an aim; this plain one tells nothing."""

    def found(self):
        return False

    def shows(self, table, wide, aim):
        return False


class Solution(Answer):
    """Numbers by which the table times them is the aim."""

    def __init__(self, numbers):
        self.numbers = numbers

    def found(self):
        return True

    def shows(self, table, wide, aim):
        return is_row(self.numbers, wide) and applied(table, self.numbers) == aim


class Never(Answer):
    """Weights that bring the table to nought, but not the aim."""

    def __init__(self, weights):
        self.weights = weights

    def shows(self, table, wide, aim):
        if not is_row(self.weights, len(table)):
            return False
        return is_nought(product([self.weights], table, wide)[0]) and weighed(self.weights, aim) != NOUGHT


def first_rows(table):
    wide = len(table[0]) if table else 0
    steps = cleared_rows(whole_rows(table), wide)
    return [at for at, (place, row) in enumerate(steps) if place is not None]


def solved(table, wide, aim):
    joint = [row + [number] for row, number in zip(table, aim)]
    steps = cleared_rows(whole_rows(joint), wide)
    if not left_over(steps, wide):
        return Solution(brought(kept_steps(steps), wide, wide))
    # How the rows make it is tracked only where it must be told, for that takes as long again.
    return Never(shortened(left_over(cleared_rows(tracked(joint), wide), wide)[0][wide + 1:]))


def left_over(steps, wide):
    """The rows that are cleared up to wide but not there."""
    return [row for place, row in steps if place is None and row[wide] != 0]


def inverse(table):
    wide = len(table)
    steps = cleared_rows(tracked(table), wide)
    if len(kept_steps(steps)) < wide:
        raise Flat(still(table, wide))
    return turned([brought(steps, wide, wide + column) for column in range(wide)], wide)


def determinant(table):
    wide = len(table)
    lows = [shared_bottom(row) for row in table]
    steps = cleared_rows([raised(row, low) for row, low in zip(table, lows)], wide)
    if len(kept_steps(steps)) < wide:
        return NOUGHT
    bottom = 1
    for low in lows:
        bottom *= low
    return frac(sign_of([place for place, row in steps]) * last_step(steps), bottom)


def still(table, wide):
    found = stills(table, wide)
    return found[0] if found else None


def stills(table, wide):
    """As many still rows as can be of which none is a sum of the others: so each still row is a sum of them."""
    many = len(table)
    steps = cleared_rows(tracked(turned(table, wide)), many)
    return [shortened(row[many:]) for place, row in steps if place is None]


def whole_rows(table):
    """The rows in whole numbers."""
    return [raised(row, shared_bottom(row)) for row in table]


def tracked(table):
    """The rows in whole numbers, and behind each how often every row of the table is in it."""
    many = len(table)
    rows = []
    for at, row in enumerate(table):
        low = shared_bottom(row)
        rows.append(raised(row, low) + [low if other == at else 0 for other in range(many)])
    return rows


def cleared_rows(rows, wide):
    """Each row cleared by the rows ahead of it, behind its first place below wide that is not 0, or None."""
    steps, kept = [], []
    for row in rows:
        left = cleared(row, kept)
        place = first_place(left, wide)
        steps.append((place, left))
        if place is not None:
            kept.append((place, left))
    return steps


def cleared(row, kept):
    """The row, so many times, less so many times the kept ones, that it is 0 at all their places."""
    # Its numbers are then determinants made of whole numbers, which is why the step ahead divides them
    # without a rest (Bareiss): so they stay whole and no longer than they must be.
    ahead = 1
    for place, other in kept:
        here, there = other[place], row[place]
        row = divided([here * number - there * less for number, less in zip(row, other)], ahead)
        ahead = here
    return row


def first_place(row, wide):
    for place in range(wide):
        if row[place] != 0:
            return place
    return None


def kept_steps(steps):
    return [(place, row) for place, row in steps if place is not None]


def last_step(kept):
    """The determinant of the rows that were kept, at their places in the order in which they were kept."""
    if not kept:
        return 1
    place, row = kept[-1]
    return row[place]


def brought(kept, wide, column):
    """A row that each kept row, up to wide, weighs as its number in the column."""
    # All its numbers stand over the last step (Cramer), so they are reckoned in whole numbers up to the end.
    low = last_step(kept)
    tops = [0 for place in range(wide)]
    for place, row in reversed(kept):
        rest = low * row[column] - sum([left * right for left, right in zip(row, tops)])
        tops[place] = divided([rest], row[place])[0]
    return [frac(top, low) for top in tops]


def sign_of(places):
    """-1 where the places are put in order by an odd number of changes of two, else 1."""
    sign = 1
    for at, place in enumerate(places):
        for ahead in places[:at]:
            if ahead > place:
                sign = -sign
    return sign


def shortened(numbers):
    """The row of whole numbers, not all 0, without what divides them all."""
    shared = 0
    for number in numbers:
        shared = common(shared, number)
    return [(number, 1) for number in divided(numbers, shared)]
