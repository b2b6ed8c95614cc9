"""Runs: makers done step by step, up to the values to which they come."""

from coilkind.errors import TooMany
from coilkind.makers import makers_in, with_makers

MOST_MAKERS = 400
MOST_WITHIN = 40


def run(maker, n):
    """(maker, number, how): what a maker without free names is behind at most n steps, how many were done, and whether
    it is a value, is stuck at a place, or may go on."""
    done = 0
    place, becomes = next_step(maker)
    while done < n and becomes is not None:
        maker = replaced(maker, place, becomes)
        refuse_large(maker)
        done += 1
        place, becomes = next_step(maker)
    if place is None:
        return (maker, done, ("value",))
    if becomes is None:
        return (maker, done, ("stuck", place))
    return (maker, done, ("on",))


def thing_of(value):
    """The thing that a value without fns is: both are written alike."""
    return value


def is_value(maker):
    """Whether a maker is a value."""
    waiting = [maker]
    while waiting:
        one = waiting.pop()
        if one[0] not in ("fn", "box", "pick"):
            return False
        if one[0] != "fn":
            waiting.extend(makers_in(one))
    return True


def next_step(maker):
    """The place of the maker that is to be done next, None where there is none, as of a value; and what it becomes,
    None where it sticks."""
    if is_value(maker):
        return (None, None)
    place = ()
    k = first_to_do(maker)
    while k is not None:
        place += (k,)
        maker = makers_in(maker)[k]
        k = first_to_do(maker)
    return (place, done_at_once(maker))


def first_to_do(maker):
    """The number of the first maker in one, which is no value, that ought to be a value ahead of it; None where all
    are."""
    inner = makers_in(maker)
    # What is gone on by in a split stands as it is until its case is known.
    for k, one in enumerate(inner[:1] if maker[0] == "split" else inner):
        if not is_value(one):
            return k
    return None


def done_at_once(maker):
    """What a maker becomes by a step, those in it being values; None where it sticks."""
    form = maker[0]
    if form == "hold":
        return maker[1]
    if form == "call" and maker[1][0] == "fn":
        return put_in(maker[1][3], maker[1][1], maker[2])
    if form == "part" and maker[1][0] == "box":
        parts = {word: part for word, part in maker[1][1]}
        return parts.get(maker[2])
    if form == "split" and maker[1][0] == "pick":
        cases = {word: (v, inner) for word, v, inner in maker[2]}
        if maker[1][1] in cases:
            v, inner = cases[maker[1][1]]
            return put_in(inner, v, maker[1][2])
    return None


def put_in(maker, v, value):
    """A maker with a value, which has no free names, in the place of each get v that isn't bound in it."""
    if maker[0] == "get":
        return value if maker[1] == v else maker
    bound = names_bound(maker)
    inner = [one if name == v else put_in(one, v, value) for one, name in zip(makers_in(maker), bound)]
    return with_makers(maker, inner)


def names_bound(maker):
    """For each maker in one, in order, the name that it is bound there, or None."""
    if maker[0] == "fn":
        return [maker[1]]
    if maker[0] == "split":
        return [None] + [v for word, v, inner in maker[2]]
    return [None] * len(makers_in(maker))


def replaced(maker, place, other):
    """A maker with another one at a place."""
    if len(place) == 0:
        return other
    inner = makers_in(maker)
    inner[place[0]] = replaced(inner[place[0]], place[1:], other)
    return with_makers(maker, inner)


def refuse_large(maker):
    """Refuses a maker in which too many stand, or too many within one another."""
    waiting = [(maker, 1)]
    many = deepest = 0
    while waiting:
        one, deep = waiting.pop()
        many += 1
        if many > MOST_MAKERS:
            raise TooMany(MOST_MAKERS)
        deepest = max(deepest, deep)
        waiting.extend([(inner, deep + 1) for inner in makers_in(one)])
    if deepest > MOST_WITHIN:
        raise TooMany(MOST_WITHIN)
