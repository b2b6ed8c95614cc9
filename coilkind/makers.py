"""Makers: small programs, told by tuples within one another."""

from coilkind.names import are_rising, is_name
from coilkind.tellings import heads_of

MOST_MAKERS = 60
MOST_WITHIN = 20
MOST_WORDS = 8
# What stands behind the first word of a maker: a name, the name of a row, a maker, parts (word, maker), cases (word,
# name, maker).
PLACES = {
    "get": ("name",),
    "fn": ("name", "row", "maker"),
    "call": ("maker", "maker"),
    "box": ("parts",),
    "part": ("maker", "name"),
    "pick": ("name", "maker"),
    "split": ("maker", "cases"),
    "hold": ("maker", "row"),
}


def is_maker(T, thing):
    """Whether thing, which may be anything, is a maker for a telling."""
    heads = heads_of(T)
    waiting = [(thing, 1)]
    many = 0
    while waiting:
        one, deep = waiting.pop()
        many += 1
        if many > MOST_MAKERS or deep > MOST_WITHIN or not is_formed(heads, one):
            return False
        waiting.extend([(inner, deep + 1) for inner in makers_in(one)])
    return True


def maker_at(maker, place):
    """The maker that stands at a place of one."""
    for k in place:
        maker = makers_in(maker)[k]
    return maker


def makers_in(maker):
    """The makers that stand straight in one, in their order."""
    found = []
    for what, one in zip(PLACES[maker[0]], maker[1:]):
        if what == "maker":
            found.append(one)
        elif what in ("parts", "cases"):
            found.extend([row[-1] for row in one])
    return found


def with_makers(maker, inner):
    """A maker with others in the places of those that stand straight in it, as many of them and in their order."""
    made = [maker[0]]
    at = 0
    for what, one in zip(PLACES[maker[0]], maker[1:]):
        if what == "maker":
            made.append(inner[at])
            at += 1
        elif what in ("parts", "cases"):
            made.append(tuple([row[:-1] + (other,) for row, other in zip(one, inner[at:])]))
            at += len(one)
        else:
            made.append(one)
    return tuple(made)


def is_formed(heads, thing):
    """Whether thing is made as a maker; whether what stands in it is one isn't asked."""
    if not isinstance(thing, tuple) or len(thing) == 0:
        return False
    # What is no text may not be fit to be asked of a dict.
    if not isinstance(thing[0], str) or thing[0] not in PLACES or len(thing) != 1 + len(PLACES[thing[0]]):
        return False
    return all([is_fit(heads, what, one) for what, one in zip(PLACES[thing[0]], thing[1:])])


def is_fit(heads, what, thing):
    """Whether thing may stand in a place for what is told."""
    if what == "name":
        return is_name(thing)
    if what == "row":
        return is_name(thing) and thing in heads
    if what == "parts":
        return are_worded(thing, 2)
    if what == "cases":
        return are_worded(thing, 3) and all([is_name(row[1]) for row in thing])
    return True


def are_worded(thing, length):
    """Whether thing is a tuple of tuples of that length with rising words ahead, not too many."""
    if not isinstance(thing, tuple) or len(thing) > MOST_WORDS:
        return False
    return all([isinstance(row, tuple) and len(row) == length for row in thing]) and are_rising(
        [row[0] for row in thing])
