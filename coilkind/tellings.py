"""Tellings: rows of a name and a head, that name one another."""

from coilkind.names import are_rising, is_name

MOST_ROWS = 200
# How many names of rows stand behind the first word of a head without words.
NAMES_BEHIND = {"all": 0, "none": 0, "way": 2, "as": 1}
WORDED = ("box", "pick")


def is_telling(thing):
    """Whether thing, which may be anything, is a telling."""
    if not isinstance(thing, tuple) or not 1 <= len(thing) <= MOST_ROWS:
        return False
    if not all([is_row(row) for row in thing]):
        return False
    heads = heads_of(thing)
    if len(heads) != len(thing) or not all([has_rows(heads, heads[name]) for name in heads]):
        return False
    return all([leads_out(heads, name) for name in heads])


def row_of(T, x):
    """The name of the first row, from x on by as rows, that is no as row."""
    heads = heads_of(T)
    while heads[x][0] == "as":
        x = heads[x][1]
    return x


def head_of(T, x):
    """The head of the row of x."""
    return heads_of(T)[row_of(T, x)]


def heads_of(T):
    """The heads of a telling by the names of its rows."""
    return {name: head for name, head in T}


def rows_of(T):
    """The names of the rows that the names of a telling stand for, by these names."""
    heads = heads_of(T)
    rows = {}
    for name in heads:
        row = name
        while heads[row][0] == "as":
            row = heads[row][1]
        rows[name] = row
    return rows


def is_row(thing):
    """Whether thing is made as a row; whether the names in its head have rows isn't asked."""
    return isinstance(thing, tuple) and len(thing) == 2 and is_name(thing[0]) and is_head(thing[1])


def is_head(thing):
    """Whether thing is made as a head; whether the names in it have rows isn't asked."""
    if not isinstance(thing, tuple) or len(thing) == 0:
        return False
    sort, *rest = thing
    # What is no text may not be fit to be asked of a dict.
    if not isinstance(sort, str):
        return False
    if sort in WORDED:
        return len(rest) == 1 and is_pairs(rest[0])
    if sort in NAMES_BEHIND:
        return len(rest) == NAMES_BEHIND[sort] and all([is_name(x) for x in rest])
    return False


def is_pairs(thing):
    """Whether thing is made as the parts of a box or the cases of a pick."""
    if not isinstance(thing, tuple) or not all([is_pair(pair) for pair in thing]):
        return False
    return are_rising([word for word, x in thing])


def is_pair(thing):
    """Whether thing is a tuple of a word, whatever it be, and a name."""
    return isinstance(thing, tuple) and len(thing) == 2 and is_name(thing[1])


def names_in(head):
    """The names of rows that a head names, in its order."""
    if head[0] in WORDED:
        return [x for word, x in head[1]]
    return list(head[1:])


def head_with(head, names):
    """A head with other names in the places of its own, as many of them and in its order."""
    if head[0] in WORDED:
        return (head[0], tuple(zip([word for word, x in head[1]], names)))
    return tuple([head[0]] + names)


def has_rows(heads, head):
    """Whether each name in a head has a row."""
    return all([x in heads for x in names_in(head)])


def leads_out(heads, name):
    """Whether as rows, from name on, come to a row that is none."""
    # A chain that comes to its end goes through no row twice.
    for turn in range(len(heads)):
        if heads[name][0] != "as":
            return True
        name = heads[name][1]
    return False
