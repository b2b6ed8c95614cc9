"""Texts: tellings written and read, a line a row."""

from coilkind.errors import NoTelling, NoText
from coilkind.tellings import WORDED, is_row, is_telling


def show_telling(T):
    """The text of a telling, a line feed between two lines."""
    return "\n".join([show_row(row) for row in T])


def read_telling(text):
    """The telling that a text tells."""
    rows = []
    for number, line in enumerate(text.split("\n")):
        row = read_row(line)
        if not is_row(row):
            raise NoText(number)
        rows.append(row)
    T = tuple(rows)
    if not is_telling(T):
        raise NoTelling("the rows are no telling")
    return T


def show_row(row):
    """The line of a row."""
    name, head = row
    return " ".join([name, "="] + show_head(head))


def show_head(head):
    """The words of a head."""
    sort = head[0]
    if sort == "as":
        return [head[1]]
    if sort in WORDED:
        return [sort] + [word for pair in head[1] for word in pair]
    return list(head)


def read_row(line):
    """What a line tells: a row, or where it is wrong something that is none."""
    words = line.split(" ")
    if len(words) < 3 or words[1] != "=":
        return None
    return (words[0], read_head(words[2:]))


def read_head(words):
    """What one word or more tell: a head, or where they are wrong something that is none."""
    sort, *rest = words
    if sort in WORDED:
        # A word without its name is left as a tuple of one, which is no pair.
        return (sort, tuple([tuple(rest[at:at + 2]) for at in range(0, len(rest), 2)]))
    if sort in ("all", "none", "way"):
        return tuple(words)
    return tuple(["as"] + words)
