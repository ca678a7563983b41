"""The refusals: one class for each, and the short word that each tells of itself."""

# A line may be anything, also a list that holds itself; without a bound its copy would never end.
MOST_OPENED = 1000000


class EchoError(ValueError):
    """Any refusal; made of a text."""

    def word(self):
        return "refused"


class NoFraction(EchoError):
    """What was to be read is not written as a fraction is."""

    def word(self):
        return "no fraction"


class NoTable(EchoError):
    """What was handed in is not the table that is asked for."""

    def word(self):
        return "no table"


class NoFit(EchoError):
    """What was handed in does not fit the thing that it is for."""

    def word(self):
        return "no fit"


class NoTurns(EchoError):
    """The turns, or how many they are, can not be taken."""

    def word(self):
        return "no turns"


class TooMany(EchoError):
    """There are more parts or cells than there may be."""

    def word(self):
        return "too many"


class Flat(EchoError):
    """A table has no inverse; numbers is a row that shows it."""

    def __init__(self, numbers):
        self.numbers = list(numbers)

    def word(self):
        return "flat"


class NoText(EchoError):
    """A row of a text tells no part; place is that row's number."""

    def __init__(self, place):
        self.place = place

    def word(self):
        return "no text"


class NoPart(EchoError):
    """A name is wanted that no part has."""

    def __init__(self, name):
        self.name = name

    def word(self):
        return "no part"


class Twice(EchoError):
    """Two rows have the same name."""

    def __init__(self, name):
        self.name = name

    def word(self):
        return "twice"


class Ring(EchoError):
    """Gains and sums want one another in a ring; names is that ring."""

    def __init__(self, names):
        self.names = list(names)

    def word(self):
        return "ring"


class NoLine(EchoError):
    """What was said is no line that can be answered; line is what was said."""

    def __init__(self, line):
        self.line = copied(line)

    def word(self):
        return "no line"


def copied(thing):
    """An equal thing whose lists and dicts are its own, however deep they nest."""
    # Turn by turn, not by calls within calls, which go only so deep.
    met, ends = [thing], [1]
    opened = 0
    while len(ends) <= len(met):
        inner = inner_things(met[len(ends) - 1]) if opened < MOST_OPENED else []
        if inner:
            opened += 1
        met.extend(inner)
        ends.append(len(met))
    many = len(met)
    # What lies within a thing was met behind it, so the last ones are made first.
    for at in reversed(range(many)):
        met[at] = made_again(met[at], met[ends[at]:ends[at + 1]])
    return met[0]


def inner_things(thing):
    if isinstance(thing, dict):
        return list(thing.values())
    return list(thing) if isinstance(thing, (list, tuple)) else []


def made_again(thing, inner):
    """The list, tuple or dict with these things in it; any other thing, and one that was not opened, as it is."""
    if not isinstance(thing, (list, tuple, dict)) or len(thing) != len(inner):
        return thing
    if isinstance(thing, dict):
        return {key: value for key, value in zip(thing, inner)}
    return tuple(inner) if isinstance(thing, tuple) else inner
