"""What stands in the lines of a desk: rows, tables, wirings and whole numbers as texts."""

from echohouse.carrying import from_wiring
from echohouse.fracs import is_figures, read_frac, show_frac
from echohouse.wiring import Wiring

NO_NUMBERS = "none"
MOST_FIGURES = 2


def show_row(row):
    return " ".join([show_frac(number) for number in row]) if row else NO_NUMBERS


def show_table(table):
    return "; ".join([show_row(row) for row in table]) if table else NO_NUMBERS


def show_tables(tables):
    return " | ".join([show_table(table) for table in tables])


def show_numbers(numbers):
    """Whole numbers, not fractions."""
    return " ".join([str(number) for number in numbers])


def show_size(system):
    return show_numbers([system.cells(), system.ins(), system.outs()])


def read_row(text):
    return [] if text == NO_NUMBERS else [read_frac(word) for word in text.split(" ")]


def read_table(text):
    return [read_row(row) for row in text.split("; ")]


def read_box(text):
    """The system of the wiring that is told by the text."""
    # A line feed within a row would cut it in two: a semicolon, which no row has, makes it as wrong as it is.
    rows = [row.replace("\n", ";") for row in text.split("; ")]
    return from_wiring(Wiring("\n".join(rows)))


def read_number(text):
    return read_numbers(text, 1)


def read_pair(text):
    return read_numbers(text, 2)


def read_numbers(text, many):
    """So many whole numbers, or None."""
    words = text.split(" ")
    return [int(word) for word in words] if len(words) == many and all([is_number(word) for word in words]) else None


def is_number(word):
    return is_figures(word) and len(word) <= MOST_FIGURES and str(int(word)) == word


READERS = {
    "box": read_box, "other": read_box, "state": read_row, "run": read_table, "answers": read_number,
    "rule": read_pair, "back": read_table, "steer": read_row, "tell": read_row,
}


def is_followed(word):
    """Whether something stands behind this word."""
    return word in READERS


def read_behind(word, text):
    """What the text behind the word tells; None where whole numbers are wanted and it tells none."""
    reader = READERS[word]
    return reader(text)
