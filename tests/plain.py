"""What the document asks for, reckoned as plainly as its words say it, for small tellings alone."""

import functools
import itertools


def row(T, x):
    """The row of x."""
    heads = dict(T)
    while heads[x][0] == "as":
        x = heads[x][1]
    return x


def moves(T, x):
    """The steps of a kind, each with the name to which it leads."""
    head = dict(T)[row(T, x)]
    if head[0] == "way":
        return {("from",): head[1], ("to",): head[2]}
    if head[0] == "box":
        return {("part", word): y for word, y in head[1]}
    if head[0] == "pick":
        return {("case", word): y for word, y in head[1]}
    return {}


def mark(T, x):
    """The sort and the words of a kind."""
    head = dict(T)[row(T, x)]
    words = [word for word, y in head[1]] if head[0] in ("box", "pick") else []
    return head[0], words


def end(T, x, road):
    """A road's end, or None."""
    if road == ():
        return row(T, x)
    further = moves(T, x)
    return end(T, further[road[0]], road[1:]) if road[0] in further else None


def turned(road):
    """Whether a road's side is -1."""
    return len([step for step in road if step == ("from",)]) % 2 == 1


def roads(T, x, n):
    """All roads of n steps."""
    if n == 0:
        return [()]
    found = [(step,) + road for step, y in moves(T, x).items() for road in roads(T, y, n - 1)]
    return sorted(found)


def roads_up_to(T, x, n):
    """All roads of at most n steps, in order."""
    return [road for many in range(n + 1) for road in roads(T, x, many)]


def how_many(T, x, n):
    """How many roads of n steps lead from a kind, by sides."""
    @functools.lru_cache(maxsize=None)
    def counted(name, left):
        if left == 0:
            return 1, 0
        even, odd = 0, 0
        for step, y in moves(T, name).items():
            more = counted(row(T, y), left - 1)
            even += more[step == ("from",)]
            odd += more[step != ("from",)]
        return even, odd
    return counted(row(T, x), n)


def rows_met(T, x):
    """The rows to which roads lead, each by the first road that comes there: no least road goes through a row twice."""
    found = {}
    for road in roads_up_to(T, x, len(T)):
        found.setdefault(end(T, x, road), road)
    return list(found.items())


def parting(T, x, S, y):
    """The least road that parts two kinds, or None: kinds of n and m rows are parted within n + m steps, if at all."""
    for road in roads_up_to(T, x, len(T) + len(S)):
        other = end(S, y, road)
        if other is not None and mark(T, end(T, x, road)) != mark(S, other):
            return road
    return None


def parting_by_pairs(T, x, S, y):
    """The same for tellings with too many roads: each pair of rows is gone on from once, by its least road."""
    known = {(row(T, x), row(S, y)): ()}
    level = list(known)
    while level:
        further = []
        for a, b in level:
            if mark(T, a) != mark(S, b):
                return known[a, b]
            for step in sorted(moves(T, a)):
                pair = row(T, moves(T, a)[step]), row(S, moves(S, b)[step])
                if pair not in known:
                    known[pair] = known[a, b] + (step,)
                    further.append(pair)
        level = further
    return None


def is_alike_paper(T, x, S, y, paper):
    """Whether a paper is right, pair by pair."""
    if (row(T, x), row(S, y)) not in paper:
        return False
    for a, b in paper:
        if a not in dict(T) or b not in dict(S) or row(T, a) != a or row(S, b) != b or mark(T, a) != mark(S, b):
            return False
        for step in moves(T, a):
            if (row(T, moves(T, a)[step]), row(S, moves(S, b)[step])) not in paper:
                return False
    return True


def is_settled(u, v):
    """Whether marks, u's ought to lie within v's, settle it."""
    return v[0] == "all" or u[0] == "none"


def is_bad(u, v):
    """Whether marks are bad, as u's ought to lie within v's."""
    if is_settled(u, v):
        return False
    if u[0] != v[0]:
        return True
    if u[0] == "box":
        return not set(v[1]) <= set(u[1])
    return u[0] == "pick" and not set(u[1]) <= set(v[1])


def behind(u, v):
    """The steps to be looked at behind marks that are not bad."""
    if is_settled(u, v):
        return []
    if u[0] == "way":
        return [("from",), ("to",)]
    if u[0] == "box":
        return [("part", word) for word in v[1]]
    return [("case", word) for word in u[1]]


def ordered(side, a, b):
    """What ought to lie within, and within what."""
    return (a, b) if side == 1 else (b, a)


def bad_road(T, x, S, y, longest):
    """The least bad road of at most that many steps, or None."""
    looked = [()]
    for many in range(longest + 1):
        further = []
        for road in sorted(looked):
            side = -1 if turned(road) else 1
            u, v = ordered(side, mark(T, end(T, x, road)), mark(S, end(S, y, road)))
            if is_bad(u, v):
                return road
            further += [road + (step,) for step in behind(u, v)]
        looked = further
    return None


def is_within_paper(T, x, S, y, paper):
    """Whether a paper is right, tuple by tuple."""
    if (1, row(T, x), row(S, y)) not in paper:
        return False
    for side, a, b in paper:
        if side not in (1, -1) or a not in dict(T) or b not in dict(S) or row(T, a) != a or row(S, b) != b:
            return False
        u, v = ordered(side, mark(T, a), mark(S, b))
        if is_bad(u, v):
            return False
        for step in behind(u, v):
            turn = -side if step == ("from",) else side
            if (turn, row(T, moves(T, a)[step]), row(S, moves(S, b)[step])) not in paper:
                return False
    return True


def within_by_rounds(T, S):
    """The tuples (side, a, b) by which there is nothing bad: all, but those that are bad or lead to one taken away."""
    rows = [[name for name, head in telling if head[0] != "as"] for telling in (T, S)]
    left = set(itertools.product((1, -1), *rows))

    def stays(side, a, b):
        u, v = ordered(side, mark(T, a), mark(S, b))
        return not is_bad(u, v) and all(
            (-side if step == ("from",) else side, row(T, moves(T, a)[step]), row(S, moves(S, b)[step])) in left
            for step in behind(u, v))

    while True:
        fewer = {triple for triple in left if stays(*triple)}
        if fewer == left:
            return left
        left = fewer
