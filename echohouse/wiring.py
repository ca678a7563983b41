"""Wirings: boxes told by a text, and their run part by part."""

from echohouse.errors import NoFit, NoFraction, NoPart, NoText, Ring, TooMany, Twice
from echohouse.fracs import read_frac
from echohouse.parts import Cell, Gain, In, Out, Sum
from echohouse.turns import refuse_run

LETTERS = "abcdefghijklmnopqrstuvwxyz"
LONGEST_NAME = 8
MOST_TERMS = 4
GREATEST_TOP = 99
GREATEST_BOTTOM = 12
MOST_ROWS = 24
MOST_CELLS = 4
MOST_LINES = 2


class Wiring:
    """A box of parts, as a text tells it."""

    def __init__(self, text):
        parts = read_parts(text)
        refuse_names(parts)
        refuse_counts(parts)
        self.whole = text
        self.all_parts = tuple(parts)
        self.in_parts = tuple([part for part in parts if isinstance(part, In)])
        self.cell_parts = tuple([part for part in parts if isinstance(part, Cell)])
        self.out_parts = tuple([part for part in parts if isinstance(part, Out)])
        self.inner_parts = tuple(in_order(parts))

    def text(self):
        return self.whole

    def parts(self):
        return list(self.all_parts)

    def ins(self):
        return len(self.in_parts)

    def outs(self):
        return len(self.out_parts)

    def cell_names(self):
        return [part.name for part in self.cell_parts]

    def order(self):
        return [part.name for part in self.inner_parts]

    def run(self, start, inputs):
        refuse_run(len(self.cell_parts), self.ins(), start, inputs)
        state = list(start)
        outputs = []
        for given in inputs:
            values = self.values_at(state, given)
            outputs.append([part.tells(values) for part in self.out_parts])
            state = [part.tells(values) for part in self.cell_parts]
        return outputs, state

    def values_at(self, state, given):
        """What each name tells at a turn."""
        values = {part.name: number for part, number in zip(self.in_parts, given)}
        for part, number in zip(self.cell_parts, state):
            values[part.name] = number
        for part in self.inner_parts:
            values[part.name] = part.tells(values)
        return values


def read_parts(text):
    parts = []
    for place, row in enumerate(text.split("\n")):
        part = read_part(row)
        if part is None:
            raise NoText(place)
        parts.append(part)
    return parts


def read_part(row):
    """The part that a row tells, or None."""
    word, *words = row.split(" ")
    if word == "in" and are_names(words, 1):
        return In(words[0])
    if word == "cell" and are_names(words, 2):
        return Cell(words[0], words[1])
    if word == "gain" and len(words) == 3:
        return read_gain(words[0], words[1], words[2])
    if word == "sum" and 2 <= len(words) <= MOST_TERMS + 1:
        return read_sum(words[0], words[1:])
    if word == "out" and are_names(words, 1):
        return Out(words[0])
    return None


def read_gain(name, number, source):
    by = read_factor(number)
    return Gain(name, by, source) if by is not None and are_names([name, source], 2) else None


def read_factor(text):
    """The fraction that a gain may have, or None."""
    try:
        by = read_frac(text)
    except NoFraction:
        return None
    return by if abs(by[0]) <= GREATEST_TOP and by[1] <= GREATEST_BOTTOM else None


def read_sum(name, words):
    terms = tuple([(-1 if word.startswith("-") else 1, word.removeprefix("-")) for word in words])
    return Sum(name, terms) if are_names([name] + [source for sign, source in terms], len(terms) + 1) else None


def are_names(words, many):
    return len(words) == many and all([is_name(word) for word in words])


def is_name(word):
    return 1 <= len(word) <= LONGEST_NAME and all([sign in LETTERS for sign in word])


def refuse_names(parts):
    named = {}
    for part in parts:
        # A line out has no name.
        if not isinstance(part, Out):
            if part.name in named:
                raise Twice(part.name)
            named[part.name] = True
    for part in parts:
        for name in part.wants():
            if name not in named:
                raise NoPart(name)


def refuse_counts(parts):
    ins = len([part for part in parts if isinstance(part, In)])
    cells = len([part for part in parts if isinstance(part, Cell)])
    outs = len([part for part in parts if isinstance(part, Out)])
    if len(parts) > MOST_ROWS or cells > MOST_CELLS or ins > MOST_LINES or outs > MOST_LINES:
        raise TooMany("a wiring has at most 24 rows, 4 cells, 2 lines in and 2 lines out")
    if ins == 0 or outs == 0:
        raise NoFit("a wiring has a line in and a line out")


def in_order(parts):
    """The gains and sums, each behind all that it wants, else the least name first; refuses with Ring."""
    inner = {part.name: part for part in parts if isinstance(part, (Gain, Sum))}
    wanted = {name: [other for other in part.wants() if other in inner] for name, part in inner.items()}
    order = []
    free = free_names(wanted, order)
    while free:
        order.append(min(free))
        free = free_names(wanted, order)
    if len(order) < len(inner):
        raise Ring(least_ring(wanted))
    return [inner[name] for name in order]


def free_names(wanted, order):
    """The names that stand not yet in the order, but all that they want do."""
    return [
        name for name, others in wanted.items()
        if name not in order and all([other in order for other in others])
    ]


def least_ring(wanted):
    """The ring of the fewest names, of several such the least one; without names where there is none."""
    # The first name with a ring of so many is that ring's least one: with a lesser one it was met already.
    for many in range(1, len(wanted) + 1):
        for start in sorted(wanted):
            ring = ring_from(wanted, start, many)
            if ring:
                return ring
    return []


def ring_from(wanted, start, many):
    """The least ring of so many names that begins with this one; without names where there is none.

    Asked only where there is no ring of fewer names: so no name is met twice on a way of so many steps back.
    """
    ring = [start]
    for near in steps_back(wanted, start, many)[::-1]:
        onward = [name for name in wanted[ring[-1]] if name in near]
        if not onward:
            return []
        ring.append(min(onward))
    return ring[:many]


def steps_back(wanted, start, many):
    """For each number of steps below many: the names from which so many steps lead to the start."""
    steps = [[start]]
    while len(steps) < many:
        near = steps[-1]
        steps.append([name for name, others in wanted.items() if any([other in near for other in others])])
    return steps
