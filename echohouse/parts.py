"""The parts of a wiring: lines in, cells, gains, sums and lines out."""

from echohouse.fracs import NOUGHT, minus, plus, show_frac, times


class Part:
    """What all parts have in common; this plain one wants nothing and tells nought."""

    def row(self):
        return ""

    def wants(self):
        return ()

    def tells(self, values):
        return NOUGHT


class In(Part):
    """A line in."""

    def __init__(self, name):
        self.name = name

    def row(self):
        return f"in {self.name}"

    def tells(self, values):
        return values[self.name]


class Cell(Part):
    """A cell; it tells what it takes, not what it holds."""

    def __init__(self, name, source):
        self.name = name
        self.source = source

    def row(self):
        return f"cell {self.name} {self.source}"

    def wants(self):
        return (self.source,)

    def tells(self, values):
        return values[self.source]


class Gain(Part):
    """So many times what another part tells."""

    def __init__(self, name, by, source):
        self.name = name
        self.by = by
        self.source = source

    def row(self):
        return f"gain {self.name} {show_frac(self.by)} {self.source}"

    def wants(self):
        return (self.source,)

    def tells(self, values):
        return times(self.by, values[self.source])


class Sum(Part):
    """What other parts tell, each put to it (1) or taken away (-1)."""

    def __init__(self, name, terms):
        self.name = name
        self.terms = terms

    def row(self):
        return " ".join(["sum", self.name] + [name if sign == 1 else "-" + name for sign, name in self.terms])

    def wants(self):
        return tuple([name for sign, name in self.terms])

    def tells(self, values):
        total = NOUGHT
        for sign, name in self.terms:
            total = plus(total, values[name]) if sign == 1 else minus(total, values[name])
        return total


class Out(Part):
    """A line out."""

    def __init__(self, source):
        self.source = source

    def row(self):
        return f"out {self.source}"

    def wants(self):
        return (self.source,)

    def tells(self, values):
        return values[self.source]
