"""What the document asks for of makers, reckoned as plainly as its words say it."""

from coilkind.bounds import joined
from coilkind.least import least, put_together
from coilkind.within import lies_within


class Ill(Exception):
    pass


def inner(maker):
    """The makers in one, in order."""
    return {
        "get": lambda: [],
        "fn": lambda: [maker[3]],
        "call": lambda: [maker[1], maker[2]],
        "box": lambda: [m for w, m in maker[1]],
        "part": lambda: [maker[1]],
        "pick": lambda: [maker[2]],
        "split": lambda: [maker[1]] + [n for w, v, n in maker[2]],
        "hold": lambda: [maker[1]],
    }[maker[0]]()


def count(maker):
    """How many makers stand in one."""
    return 1 + sum(count(one) for one in inner(maker))


def depth(maker):
    """How many makers stand within one another."""
    return 1 + max([depth(one) for one in inner(maker)], default=0)


def kind_of(T, maker):
    """The least kind of a maker, or the place of the first one at fault."""
    try:
        return ("kind", reckoned(T, {}, maker, ()))
    except Ill as ill:
        return ("ill", ill.args[0])


def reckoned(T, known, maker, place):
    form = maker[0]
    if form == "get":
        if maker[1] not in known:
            raise Ill(place)
        return known[maker[1]]
    if form == "fn":
        taken = least(T, maker[2])
        return put_together("way", [taken, reckoned(T, {**known, maker[1]: taken}, maker[3], place + (0,))])
    if form == "split":
        return split(T, known, maker, place)
    kinds = [reckoned(T, known, one, place + (k,)) for k, one in enumerate(inner(maker))]
    kind = by_kinds(T, maker, kinds)
    if kind is None:
        raise Ill(place)
    return kind


def by_kinds(T, maker, kinds):
    form, (name, head) = maker[0], kinds[0][0] if kinds else (None, None)
    if form == "box":
        return put_together("box", [(w, kind) for (w, m), kind in zip(maker[1], kinds)])
    if form == "pick":
        return put_together("pick", [(maker[1], kinds[0])])
    if form == "hold":
        return least(T, maker[2]) if lies_within(kinds[0], name, T, maker[2]) else None
    if head == ("none",):
        return kinds[0]
    if form == "call" and head[0] == "way" and lies_within(kinds[1], "ka", kinds[0], head[1]):
        return least(kinds[0], head[2])
    if form == "part" and head[0] == "box" and maker[2] in dict(head[1]):
        return least(kinds[0], dict(head[1])[maker[2]])
    return None


def split(T, known, maker, place):
    picked = reckoned(T, known, maker[1], place + (0,))
    head = picked[0][1]
    if head == ("none",):
        return picked
    words = [w for w, v, n in maker[2]]
    if head[0] != "pick" or not {w for w, x in head[1]} <= set(words):
        raise Ill(place)
    kind = put_together("none", [])
    for k, (w, v, n) in enumerate(maker[2]):
        if w in dict(head[1]):
            more = reckoned(T, {**known, v: least(picked, dict(head[1])[w])}, n, place + (k + 1,))
            kind = joined(kind, "ka", more, "ka")
    return kind


def is_value(maker):
    return maker[0] == "fn" or maker[0] in ("box", "pick") and all(is_value(one) for one in inner(maker))


def places(maker, place=(), open_to=True):
    """All makers in one, within ahead, each with its place and whether it stands in no fn and in no n of a split."""
    found = []
    for k, one in enumerate(inner(maker)):
        found += places(one, place + (k,), open_to and maker[0] != "fn" and not (maker[0] == "split" and k))
    return found + [(place, maker, open_to)]


def step(maker):
    """("value",), ("stuck", place), or the maker behind one step."""
    if is_value(maker):
        return ("value",)
    for place, one, open_to in places(maker):
        ahead = inner(one)[:1] if one[0] == "split" else inner(one)
        if open_to and not is_value(one) and all(is_value(other) for other in ahead):
            done = done_at_once(one)
            return ("stuck", place) if done is None else ("done", at(maker, place, done))
    raise AssertionError("a maker that is no value has one to be done")


def done_at_once(maker):
    form = maker[0]
    if form == "hold":
        return maker[1]
    if form == "call" and maker[1][0] == "fn":
        return put_in(maker[1][3], maker[1][1], maker[2])
    if form == "part" and maker[1][0] == "box":
        return dict(maker[1][1]).get(maker[2])
    if form == "split" and maker[1][0] == "pick":
        for w, v, n in maker[2]:
            if w == maker[1][1]:
                return put_in(n, v, maker[1][2])
    return None


def put_in(maker, v, value):
    form = maker[0]
    if form == "get":
        return value if maker[1] == v else maker
    if form == "fn":
        return maker if maker[1] == v else maker[:3] + (put_in(maker[3], v, value),)
    if form == "call":
        return (form, put_in(maker[1], v, value), put_in(maker[2], v, value))
    if form == "box":
        return (form, tuple((w, put_in(m, v, value)) for w, m in maker[1]))
    if form == "pick":
        return (form, maker[1], put_in(maker[2], v, value))
    if form == "split":
        return (form, put_in(maker[1], v, value), tuple(
            (w, u, n if u == v else put_in(n, v, value)) for w, u, n in maker[2]))
    return (form, put_in(maker[1], v, value), maker[2])


def at(maker, place, other):
    """A maker with another one at a place."""
    if not place:
        return other
    one = at(inner(maker)[place[0]], place[1:], other)
    form, k = maker[0], place[0]
    if form == "fn":
        return maker[:3] + (one,)
    if form == "call":
        return (form, one, maker[2]) if k == 0 else (form, maker[1], one)
    if form == "box":
        return (form, maker[1][:k] + ((maker[1][k][0], one),) + maker[1][k + 1:])
    if form == "pick":
        return (form, maker[1], one)
    if form == "split" and k:
        return (form, maker[1], maker[2][:k - 1] + (maker[2][k - 1][:2] + (one,),) + maker[2][k:])
    return (form, one, maker[2])


def run(maker, n):
    """The maker behind at most n steps, how many were done, and how it is; or the number for which it is refused."""
    for done in range(n + 1):
        found = step(maker)
        if found[0] != "done":
            return (maker, done, found)
        if done == n:
            return (maker, done, ("on",))
        maker = found[1]
        if count(maker) > 400:
            return 400
        if depth(maker) > 40:
            return 40
